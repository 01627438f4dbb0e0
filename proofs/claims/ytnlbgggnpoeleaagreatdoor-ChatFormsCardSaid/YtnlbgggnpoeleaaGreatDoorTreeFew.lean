/-
 TreeFew; TreeRefRight; TreeDh; TreeHold; TreeRefBlank; TreeRefRenew; TreeRefRemove; TreeAwake; TreeJoin; TreePuts; TreeText; TreePut; TreeHashMath; TreeRefText; TreeRefHash; TreeHashOf; TreeSaid; TreeRefSaid; TreeHash; TreeNode; TreePathMath; TreeGood; TreePlaceSame: several texts in one.
-/
import Derived.Test.YtnlbgggnpoeleaaGreatDoorHA
import Derived.Test.YtnlbgggnpoeleaaGreatDoorTreeJoinMath
import Derived.Test.YtnlbgggnpoeleaaGreatDoorIC
set_option maxRecDepth 100000
set_option maxHeartbeats 12800000
namespace Go.Proofs.YtnlbgggnpoeleaaGreatDoor
open Go.RowKit Go.Lib
open List renaming setIfInBounds_toArray -> sA, set_cons_zero -> sB, set_cons_succ -> sC
open BigFrame renaming wpList_want -> wQ
namespace Tt
def fewp (P:List Pr):Bool:=P.all λp=>decide (p.loose.length<=100)
def few (L:List Lf)(P:List Pr):Bool:=decide (L.length<=100)&&(decide (P.length<=100)&&fewp P)
end Tt
namespace Tt
theorem nameAt_eq {L:List Lf}{k:Nat}(hk:k<L.length):nameAt L (k:Int)=L[k].name:=by
 unfold nameAt;rw[Int.toNat_natCast,List.getElem?_eq_getElem hk]
 rfl
theorem any_yes {L:List Lf}{i k:Nat}{y:Int}(hi:i<=L.length)(hk:k<i)(h:nameAt L (k:Int)=y):(L.take i).any (λl=>l.name == y)=true:=by
 rw[List.any_eq_true];refine⟨L[k],?_,?_⟩
 ·rw[List.mem_take_iff_getElem]
  exact⟨k,by omega,rfl⟩
 ·rw[beq_iff_eq,<-nameAt_eq (by omega)]
  exact h
theorem any_no {L:List Lf}{i:Nat}{y:Int}(h:∀j,j<i->nameAt L (j:Int)≠y):(L.take i).any (λl=>l.name == y)=false:=by
 rw[List.any_eq_false];intro l hl;obtain⟨j,hj,rfl⟩:=List.mem_take_iff_getElem.1 hl;rw[beq_iff_eq,<-nameAt_eq (by omega)]
 exact h j (by omega)
theorem any_next {L:List Lf}{i:Nat}(hi:i<L.length)(y:Int):(L.take (i+1)).any (λl=>l.name == y)=((L.take i).any (λl=>l.name == y) || L[i].name == y):=by
 rw[List.take_succ_eq_append_getElem hi,List.any_append];simp
theorem right_tail {L:List Lf}{P:List Pr}(h1:L.length<=64)(h2:P.length=L.length-1):right L P=(!lastBlank L&&(leavesOk [] L&&parentsOk L 0 P)):=by
 rw[right,decide_eq_true h1,decide_eq_true h2]
 rfl
end Tt
theorem Qe4 (lv pv:Value)(L:List Lf)(P:List Pr)(w:World)(hL:Lvs w lv L)(hP:Pts w pv P)(hpl:∀p∈P,p.loose.length<=1000):
  Calls Tryz.prog 71 #[.agg #[lv,pv]] w λe w'=>e=.returned (.bool (Tt.right L P))/\Kept w.heap.size w.heap.size w w':=by
 obtain⟨ad,g,o,c,rfl,hc,_⟩:=hL;obtain⟨pad,pg,po,pc,rfl,hpc,_⟩:=hP;obtain⟨ln,hln⟩:∃ln,ln=L.length:=⟨_,rfl⟩;obtain⟨pn,hpn⟩:∃pn,pn=P.length:=⟨_,rfl⟩;have HLN:=hid hln;have HPN:=hid hpn;rw[<-hln,<-hpn];have HC:=hid hc;have HPC:=hid hpc;have HPL:=hid hpl;clear hc hpc hln hpn hpl;have hk1:Kept w.heap.size w.heap.size w (w.alloc (.cells #[.slice ad ln c,.slice pad pn pc] 45)):=zI.alloc (zB _) _
 have ht1:=Qaa w (.cells #[.slice ad ln c,.slice pad pn pc] 45)
 have K1:=hid hk1;have T1:=hid ht1;clear hk1 ht1
 go_enter Tryz.func71,Tryz.ntmps71
 go_upto_region 1 with fail
 generalize w.alloc (.cells #[.slice ad ln c,.slice pad pn pc] 45)=w1 at K1 T1 |-
 obtain⟨tb,htb⟩:∃tb,tb=w.heap.size:=⟨_,rfl⟩;rw[<-htb] at T1 |-;clear htb;have t0:=Qac T1.out;have t1:=Qab T1.out
 go_upto_region 2 with fail
 by_cases h1:64<ln
 ·have h1i:(ln:Int) > 64:=by omega
  have H1:=hid h1;refine zA ?_;iterate 3(refine wW λK hK=>?_;go_simp;apply hK;clear hK K)
  (iterate 10(refine @wpList_skip _ _ _ _ _ _ _ ?_ ?_;kernel_rfl;simp only[Act.put,sA,sB,sC]));iterate 2(refine wW λK hK=>?_;go_simp;apply hK;clear hK K)
  (iterate 8(refine @wpList_skip _ _ _ _ _ _ _ ?_ ?_;kernel_rfl;simp only[Act.put,sA,sB,sC]));refine wW λK hK=>?_;go_simp;apply hK;clear hK K;clear h1 h1i;go_wp2;go_ret;refine⟨?_,K1.out⟩
  have hf:Tt.right L P=false:=by
   rw[Tt.right,decide_eq_false (show ¬L.length<=64 by have:=H1.out;have:=HLN.out;omega)];rfl
  rw[hf];rfl
 ·have h1i:¬(ln:Int) > 64:=by omega
  have H1:=hid (show ln<=64 by omega)
  by_cases h0:0<ln
  ·have h0i:(ln:Int) > 0:=by omega
   have h0z:((ln:Int) == 0)=false:=by rw[beq_eq_false_iff_ne];omega
   have h0w:IntKind.i64.wrap ((ln:Int)-1)=((ln-1:Nat):Int):=by rw[IntKind.wrap_i64];omega
   by_cases h2:pn=ln-1
   ·have h2n:((pn:Int) != ((ln:Int)-1))=false:=by rw[bne,show((pn:Int) == ((ln:Int)-1))=true by rw[beq_iff_eq];omega];rfl
    have h2m:((pn:Int) != ((ln-1:Nat):Int))=false:=by rw[bne,show((pn:Int) == ((ln-1:Nat):Int))=true by rw[beq_iff_eq];omega];rfl
    have H2:=hid h2;refine zA ?_;iterate 18(refine wW λK hK=>?_;go_simp;apply hK;clear hK K)
    (iterate 4(refine @wpList_skip _ _ _ _ _ _ _ ?_ ?_;kernel_rfl;simp only[Act.put,sA,sB,sC]));iterate 2(refine wW λK hK=>?_;go_simp;apply hK;clear hK K)
    clear h1 h1i;clear h0 h0i h0z h0w h2 h2n h2m;have HRT:=hid (Tt.right_tail (L:=L) (P:=P) (by rw[<-HLN.out];exact H1.out) (by rw[<-HLN.out,<-HPN.out];exact H2.out))
    have hb9:(ln:Int)<=64:=by have:=H1.out;omega
    have hp9:(pn:Int)<=64:=by have:=H1.out;have:=H2.out;omega
    go_wp2;clear t0 t1
    go_loopw [4] (λs4 wr=>∃i:Nat,s4=.int .i64 (i:Int)/\∃M:List Int,Hid (i<=ln)/\Hid (Tt.leavesOk [] L=Tt.leavesOk M (L.drop i))/\Hid (∀y,1<=y->M.contains y=(L.take i).any (λl=>l.name == y))/\Hid (wr.heap[tb]?=some (.cells #[.slice ad ln c,.slice pad pn pc] 45 (0,0)))/\Hid (Kept w.heap.size w.heap.size w wr)) (λs4 _=>ln-(RowKit.intOf s4).toNat)
    case atStart=>exact⟨0,rfl,[],hid (Nat.zero_le _),hid rfl,hid (λ_ _=>rfl),T1,K1⟩
    case round=>
     obtain⟨i,rfl,M,hi,HEQ,HME,HTB,HK⟩:=hrel
     by_cases hlt:i<ln
     ·have hiL:i<L.length:=by rw[<-HLN.out];exact hlt
      obtain⟨rfl,hg,hok,hr⟩:=HC.out i hiL;have t0:=Qac HTB.out;have hlti:(i:Int)<(ln:Int):=by omega
      have hi0:¬(i:Int)<0:=by omega
      have hst:Tt.leavesOk [] L=Tt.leavesOk M (L[i]::L.drop (i+1)):=by rw[HEQ.out,List.drop_eq_getElem_cons hiL]
      have hnx:∀y,1<=y->((L.take i).any (λl=>l.name == y) || L[i].name == y)=(L.take (i+1)).any (λl=>l.name == y):=λy _=>(Tt.any_next hiL y).symm
      have HLA:=hid (run_loadVar_mid wr g (o+i*97) 122 L[i].cells _ (Qaf HK.out hr hg (zD hg)) Tryz.underlying122 rfl (by have:=leafInfo (Lf.size hok);simpa using this))
      clear hr;generalize L[i]=l at hst HLA hok hnx;have HST:=hid hst;have HNX:=hid hnx;have HSZ:=hid (leafInfo (Lf.size hok));have HS0:=hid (show Lf.zero.cells.toArray.size=l.cells.toArray.size by rw[Lf.size hok,Lf.size Lf.zero_ok])
      have HAL:=hid l.all;have heq0:=λw=>Qh0 w l Lf.zero hok Lf.zero_ok
      have HNC:=hid (λ(x:World) (b:Nat) (h:x.heap[b]?=some (.cells l.cells.toArray 122 (0,0)))=>Qcf h)
      have HLT:=hid hlt;obtain⟨D,hD⟩:∃D,D=l.cells.toArray:=⟨_,rfl⟩;obtain⟨Z,hZ⟩:∃Z,Z=Lf.zero.cells.toArray:=⟨_,rfl⟩;rw[<-hD] at HLA HSZ HS0 HAL HNC;rw[<-hZ] at HS0;simp only[<-hD,<-hZ] at heq0;have HBZ:=hid (λw=>show(Instr.build 122 #[]).run Tryz.prog w=.ok (.agg Z) w by rw[hZ];exact Qjz w)
      have HAZ:=hid (λw=>show(Instr.alloc 122 true (.tuple #[])).run Tryz.prog w=.ok (.pointer (some ⟨w.heap.size,0,none⟩)) (w.alloc (.cells Z 122)) by rw[hZ];exact Qhm w)
      clear hst hok hlt hi hg hD hiL hnx
      go_upto_region 7 with fail
      refine zA ?_;iterate 4(refine wW λK hK=>?_;go_simp;apply hK;clear hK K)
      refine wLk 122 (.tmp 46) rfl (g) (o+i*97) rfl (.agg D) (HLA.out) ?_
      simp only[Act.put,sA,sB,sC];refine @Qas _ _ _ _ _ _ _ _ ?_ 122 rfl _ (HAZ.out _) ?_;kernel_rfl
      simp only[Act.put,sA,sB,sC];refine wpList_store_row rfl 122 _ _ rfl (wr.heap.size) D rfl rfl 122 Z (Qaa _ _) (HSZ.out) (HS0.out) (HAL.out) ?_
      simp only[Act.put];rw[World.setRow_alloc_new];clear t0;have kk:Kept wr.heap.size wr.heap.size wr (wr.alloc (.cells D 122)):=zI.alloc (zB _) _
      have K2:=hid (HK.out.next1 kk);have T2:=hid (rk HTB.out kk);have L2:=hid (Qaa wr (.cells D 122))
      clear kk;generalize wr.alloc (.cells D 122)=w2 at K2 T2 L2 |-
      obtain⟨lb,hlb⟩:∃lb,lb=wr.heap.size:=⟨_,rfl⟩;rw[<-hlb] at L2 |-;clear hlb;have HQ0:=hid heq0;clear heq0 hZ
      go_upto_region 8 with fail
      refine zA ?_;refine wLk 122 (.tmp 5) rfl (lb) (0) rfl (.agg D) (run_loadVar_row w2 lb 122 122 D (0,0) _ L2.out Tryz.underlying122 rfl HSZ.out) ?_
      simp only[Act.put,sA,sB,sC];refine @Qap _ _ _ _ _ _ _ ?_ 122 rfl _ (HBZ.out _) ?_;kernel_rfl
      simp only[Act.put,sA,sB,sC];refine @Qtm _ _ _ _ _ _ _ ?_ _ _ _ _ rfl (D) (Z) rfl rfl leafGuard (l.same Lf.zero) (HQ0.out w2) ?_;kernel_rfl;simp only[Act.put,sA,sB,sC]
      by_cases hz:l.same Lf.zero=true
      ·rw[hz]
       have HZ:=hid hz;clear hz;go_wp2
       go_roundw
       case rel=>exact⟨i+1,by simp,M,hid HLT.out,hid (by rw[HST.out,Tt.leavesOk,zG HZ.out]),hid (λy hy=>by
        rw[<-HNX.out y hy,<-HME.out y hy];have h0:l=Lf.zero:=Lf.same_iff.1 HZ.out;have:(l.name == y)=false:=by rw[h0,beq_eq_false_iff_ne];show(0:Int)≠y;omega
        rw[this,Bool.or_false]),T2,K2⟩
       case measure=>have:=HLT.out;simp[RowKit.intOf];omega
      ·rw[Bool.not_eq_true] at hz
       rw[hz];have HZ:=hid hz;have hnc:=HNC.out w2 lb L2.out;clear hz;obtain⟨y,hy⟩:∃y,y=l.name:=⟨_,rfl⟩;rw[<-hy] at hnc;have HY:=hid hy;clear hy
       by_cases h1:y<1
       ·have H9:=hid h1
        go_upto_region 9 with fail
        refine zA ?_;iterate 4(refine wW λK hK=>?_;go_simp;apply hK;clear hK K)
        (iterate 3(refine @wpList_skip _ _ _ _ _ _ _ ?_ ?_;kernel_rfl;simp only[Act.put,sA,sB,sC]));refine wW λK hK=>?_;go_simp;apply hK;clear hK K;clear h1 hnc;go_wp2;go_ret;refine⟨?_,K2.out⟩
        have hf:Tt.right L P=false:=by
         have hl:Tt.leavesOk [] L=false:=by
          rw[HST.out,Tt.leavesOk,if_neg (by rw[HZ.out];exact Bool.false_ne_true),<-HY.out]
          rw[decide_eq_false (show ¬1<=y by have:=H9.out;omega)];rfl
         rw[HRT.out,hl];simp
        rw[hf];rfl
       ·by_cases h2:y > 64
        ·have H9:=hid h2
         go_upto_region 9 with fail
         refine zA ?_;iterate 8(refine wW λK hK=>?_;go_simp;apply hK;clear hK K)
         clear h1 h2 hnc;go_wp2;go_ret;refine⟨?_,K2.out⟩
         have hf:Tt.right L P=false:=by
          have hl:Tt.leavesOk [] L=false:=by
           rw[HST.out,Tt.leavesOk,if_neg (by rw[HZ.out];exact Bool.false_ne_true),<-HY.out]
           rw[decide_eq_false (show ¬y<=64 by have:=H9.out;omega)];simp
          rw[HRT.out,hl];simp
         rw[hf];rfl
        ·have H9:=hid h1
         have H8:=hid h2
         go_upto_region 9 with fail
         refine zA ?_;iterate 8(refine wW λK hK=>?_;go_simp;apply hK;clear hK K)
         clear h1 h2 hnc;go_wp2
         go_loopw [6] (λs6 wr=>∃k:Nat,s6=.int .i64 (k:Int)/\Hid (k<=i)/\Hid (∀j:Nat,j<k->Tt.nameAt L (j:Int)≠y)/\Hid (wr.heap[tb]?=some (.cells #[.slice (some ⟨g,o,none⟩) ln c,.slice pad pn pc] 45 (0,0)))/\Hid (wr.heap[lb]?=some (.cells D 122 (0,0)))/\Hid (Kept w.heap.size w.heap.size w wr)) (λs6 _=>i-(RowKit.intOf s6).toNat)
         case atStart=>exact⟨0,rfl,hid (Nat.zero_le _),hid (λj hj=>absurd hj (Nat.not_lt_zero _)),T2,L2,K2⟩
         case round=>
          clear T2 L2 K2;obtain⟨k,rfl,hk,HNE,T3,L3,K3⟩:=hrel
          by_cases hlk:k<i
          ·have hkL:k<L.length:=by have:=HLT.out;rw[<-HLN.out];omega
           obtain⟨_,hgk,hokk,hrk⟩:=HC.out k hkL;have hck0:w.cell? ⟨g,o+k*97,none⟩=some (.int .i64 L[k].name):=hrk 0 _ (by simp[Lf.cells])
           rw[<-Tt.nameAt_eq hkL] at hck0;have hck:=(K3.out.cell (p:=⟨g,o+k*97,none⟩) hgk (zD hgk)).trans hck0;have hgw:=zC hgk K3.out.size;have hyc:=HNC.out _ lb L3.out;rw[<-HY.out] at hyc;have hlbw:=zF L3.out;obtain⟨nk,hnk⟩:∃nk,nk=Tt.nameAt L (k:Int):=⟨_,rfl⟩;rw[<-hnk] at hck;have HNK:=hid hnk;have HLS:=hid (λ(x:World) (q:Kept wr.heap.size wr.heap.size wr x)=>Qde (t:=42) (d:=.int .u8) (Qac (rk T3.out q)) (.inl rfl) rfl)
           have HKN:=hid (λ(x:World) (q:Kept wr.heap.size wr.heap.size wr x)=>Ql1 ((q.cell (p:=⟨g,o+k*97,none⟩) hgw (zD hgw)).trans hck))
           have HYN:=hid (λ(x:World) (q:Kept wr.heap.size wr.heap.size wr x)=>Ql1 ((q.cell (p:=⟨lb,0,none⟩) hlbw (zD hlbw)).trans hyc))
           have hlki:(k:Int)<(i:Int):=by omega
           have hlkn:(k:Int)<(ln:Int):=by omega
           have hk0:¬(k:Int)<0:=by omega
           have HLK:=hid hlk;have KD:Hid (Kept wr.heap.size wr.heap.size wr wr.drew):=hid zI.drew;have K4:=hid (K3.out.next1 KD.out);have T4:=hid ((KD.out.block tb (zF T3.out) (zD (zF T3.out))).trans T3.out);have L4:=hid ((KD.out.block lb (zF L3.out) (zD (zF L3.out))).trans L3.out);clear hck hck0 hrk hokk hgk hkL hgw hyc hlbw hnk hk hlk KD
           go_upto_region 14 with fail
           by_cases he:nk=y
           ·have heb:(nk == y)=true:=by rw[beq_iff_eq];exact he
            have HE:=hid he;clear he;refine wp_region_noPanic ?_;refine wp_region_held_drew (S:=λw'=>Kept wr.heap.size wr.heap.size wr w') (by kernel_rfl) (zI.drew) (λhH=>?_)
            refine tkE (i:=0) 64 rfl hH ?_
            apply zH
            ·intro w9 _
             go_simp
             first|done|rfl
            simp only[sA,sB,sC];refine tkA (i:=1) 65 (.slice (some ⟨g,o,none⟩) ln c) rfl (yK (by kernel_rfl) 42 _ rfl (tb) (0) rfl (.slice (some ⟨g,o,none⟩) ln c) (λw' hw'=>HLS.out w' hw')) hH ?_
            simp only[sA,sB,sC];refine tkE (i:=2) 66 rfl hH ?_
            apply zH
            ·intro w9 _
             go_simp
             first|done|rfl
            simp only[sA,sB,sC];refine tkE (i:=3) 67 rfl hH ?_
            apply zH
            ·intro w9 _
             go_simp
             first|done|rfl
            simp only[sA,sB,sC];refine tkE (i:=4) 68 rfl hH ?_
            apply zH
            ·intro w9 _
             go_simp
             first|done|rfl
            simp only[sA,sB,sC];refine tkA (i:=5) 69 (.int .i64 nk) rfl (yK (by kernel_rfl) 3 _ rfl (g) (o+k*97) rfl (.int .i64 nk) (λw' hw'=>HKN.out w' hw')) hH ?_
            simp only[sA,sB,sC];refine tkE (i:=6) 70 rfl hH ?_
            apply zH
            ·intro w9 _
             go_simp
             first|done|rfl
            simp only[sA,sB,sC];refine tkA (i:=7) 71 (.int .i64 y) rfl (yK (by kernel_rfl) 3 _ rfl (lb) (0) rfl (.int .i64 y) (λw' hw'=>HYN.out w' hw')) hH ?_
            simp only[sA,sB,sC];refine tkE (i:=8) 72 rfl hH ?_
            apply zH
            ·intro w9 _
             go_simp
             first|done|rfl
            simp only[sA,sB,sC];refine wpAnyH_done (by kernel_rfl) ?_ _
            refine NoPanic.normal ?_;clear heb;go_wp2;go_ret;refine⟨?_,K4.out⟩
            have hf:Tt.right L P=false:=by
             have hl:Tt.leavesOk [] L=false:=by
              rw[HST.out,Tt.leavesOk,if_neg (by rw[HZ.out];exact Bool.false_ne_true),<-HY.out,HME.out y (by have:=H9.out;omega),Tt.any_yes (by have:=HLT.out;rw[<-HLN.out];omega) HLK.out (by rw[<-HNK.out];exact HE.out)]
              simp
             rw[HRT.out,hl];simp
            rw[hf];rfl
           ·have heb:(nk == y)=false:=by rw[beq_eq_false_iff_ne];exact he
            have HE:=hid he;clear he;refine wp_region_noPanic ?_;refine wp_region_held_drew (S:=λw'=>Kept wr.heap.size wr.heap.size wr w') (by kernel_rfl) (zI.drew) (λhH=>?_)
            refine tkE (i:=0) 64 rfl hH ?_
            apply zH
            ·intro w9 _
             go_simp
             first|done|rfl
            simp only[sA,sB,sC];refine tkA (i:=1) 65 (.slice (some ⟨g,o,none⟩) ln c) rfl (yK (by kernel_rfl) 42 _ rfl (tb) (0) rfl (.slice (some ⟨g,o,none⟩) ln c) (λw' hw'=>HLS.out w' hw')) hH ?_
            simp only[sA,sB,sC];refine tkE (i:=2) 66 rfl hH ?_
            apply zH
            ·intro w9 _
             go_simp
             first|done|rfl
            simp only[sA,sB,sC];refine tkE (i:=3) 67 rfl hH ?_
            apply zH
            ·intro w9 _
             go_simp
             first|done|rfl
            simp only[sA,sB,sC];refine tkE (i:=4) 68 rfl hH ?_
            apply zH
            ·intro w9 _
             go_simp
             first|done|rfl
            simp only[sA,sB,sC];refine tkA (i:=5) 69 (.int .i64 nk) rfl (yK (by kernel_rfl) 3 _ rfl (g) (o+k*97) rfl (.int .i64 nk) (λw' hw'=>HKN.out w' hw')) hH ?_
            simp only[sA,sB,sC];refine tkE (i:=6) 70 rfl hH ?_
            apply zH
            ·intro w9 _
             go_simp
             first|done|rfl
            simp only[sA,sB,sC];refine tkA (i:=7) 71 (.int .i64 y) rfl (yK (by kernel_rfl) 3 _ rfl (lb) (0) rfl (.int .i64 y) (λw' hw'=>HYN.out w' hw')) hH ?_
            simp only[sA,sB,sC];refine tkE (i:=8) 72 rfl hH ?_
            apply zH
            ·intro w9 _
             go_simp
             first|done|rfl
            simp only[sA,sB,sC];refine wpAnyH_done (by kernel_rfl) ?_ _
            refine NoPanic.normal ?_;go_wp2
            go_roundw
            case rel=>exact⟨k+1,by simp,hid HLK.out,hid (λj hj=>by
             rcases Nat.lt_or_ge j k with h|h
             ·exact HNE.out j h
             ·obtain rfl:j=k:=by omega
              rw[<-HNK.out]
              exact HE.out),T4,L4,K4⟩
            case measure=>have:=HLK.out;simp[RowKit.intOf];omega
          ·have hlki:¬(k:Int)<(i:Int):=by omega
           have hky:k=i:=by have:=hk.out;omega
           have HAN:=hid (Tt.any_no (L:=L) (i:=i) (y:=y) (by rw[<-hky];exact HNE.out))
           clear hlk hky hk;go_wp2;clear hlki
           go_roundw
           case rel=>exact⟨i+1,by simp,y::M,hid HLT.out,hid (by
            rw[HST.out,Tt.leavesOk,if_neg (by rw[HZ.out];exact Bool.false_ne_true),<-HY.out,decide_eq_true (show 1<=y by have:=H9.out;omega),decide_eq_true (show y<=64 by have:=H8.out;omega),HME.out y (by have:=H9.out;omega),HAN.out]
            rfl),hid (λz hz=>by
            rw[<-HNX.out z hz,<-HME.out z hz,List.contains_cons,<-HY.out,Bool.or_comm]
            congr 1
            rw[Bool.eq_iff_iff,beq_iff_eq,beq_iff_eq]
            exact eq_comm),T3,K3⟩
           case measure=>have:=HLT.out;simp[RowKit.intOf];omega
     ·have hnl:¬(i:Int)<(ln:Int):=by omega
      have HLO:Hid (Tt.leavesOk [] L=true):=hid (by
       rw[HEQ.out,List.drop_of_length_le (by have:=hi.out;rw[<-HLN.out];omega)]
       rfl)
      clear hlt hi HEQ HME;have t1:=Qab HTB.out;go_wp2;clear hnl t1
      go_loopw [7] (λs7 wr=>∃i:Nat,s7=.int .i64 (i:Int)/\Hid (i<=pn)/\Hid (Tt.parentsOk L 0 P=Tt.parentsOk L i (P.drop i))/\Hid (wr.heap[tb]?=some (.cells #[.slice ad ln c,.slice pad pn pc] 45 (0,0)))/\Hid (Kept w.heap.size w.heap.size w wr)) (λs7 _=>pn-(RowKit.intOf s7).toNat)
      case atStart=>exact⟨0,rfl,hid (Nat.zero_le _),hid rfl,HTB,HK⟩
      case round=>
       clear HTB HK;obtain⟨i,rfl,hi,HEQ,HTB,HK⟩:=hrel;have t1:=Qab HTB.out
       by_cases hlt:i<pn
       ·have hiL:i<P.length:=by rw[<-HPN.out];exact hlt
        obtain⟨rfl,hg,hok,sl,hr,hns⟩:=HPC.out i hiL;obtain⟨sad,sc,sg,so,rfl,hsc⟩:=hns;have hlti:(i:Int)<(pn:Int):=by omega
        have hi0:¬(i:Int)<0:=by omega
        have hst:Tt.parentsOk L 0 P=Tt.parentsOk L i (P[i]::P.drop (i+1)):=by rw[HEQ.out,List.drop_eq_getElem_cons hiL]
        have hlo:=HPL.out _ (List.getElem_mem hiL);have HLA:=hid (run_loadVar_mid wr pg (po+i*66) 124 (P[i].cells (.slice sad P[i].loose.length sc)) _ (Qaf HK.out hr hg (zD hg)) Tryz.underlying124 rfl (by have:=parentInfo (Pr.size hok (.slice sad P[i].loose.length sc));simpa using this))
        clear hr;generalize P[i]=p at hst HLA hok hsc hlo;have HSC:=hid hsc;have HLT:=hid hlt;have HOK:=hid hok;have HLO1:=hid hlo;have HST:=hid hst;obtain⟨qn,hqn⟩:∃qn,qn=p.loose.length:=⟨_,rfl⟩;rw[<-hqn] at HLA;have HQN:=hid hqn;have hqn9:(qn:Int)<=1000:=by omega
        have HSZ:=hid (parentInfo (Pr.size hok (.slice sad qn sc)));have HS0:=hid (show(Pr.zero.cells (.slice none 0 0)).toArray.size=(p.cells (.slice sad qn sc)).toArray.size by rw[Pr.size hok,Pr.size Pr.zero_ok])
        have HAL:=hid (p.all sad qn sc);obtain⟨D,hD⟩:∃D,D=(p.cells (.slice sad qn sc)).toArray:=⟨_,rfl⟩;have HD:=hid hD;rw[<-hD] at HLA HSZ HS0 HAL;obtain⟨Z,hZ⟩:∃Z,Z=(Pr.zero.cells (.slice none 0 0)).toArray:=⟨_,rfl⟩;rw[<-hZ] at HS0;have HAZ:=hid (λw=>show(Instr.alloc 124 true (.tuple #[])).run Tryz.prog w=.ok (.pointer (some ⟨w.heap.size,0,none⟩)) (w.alloc (.cells Z 124)) by rw[hZ];exact Qdy w)
        clear hst hok hlt hi hg hD hZ hiL hlo hqn hsc
        go_upto_region 19 with fail
        refine zA ?_;iterate 4(refine wW λK hK=>?_;go_simp;apply hK;clear hK K)
        refine wLk 124 (.tmp 83) rfl (pg) (po+i*66) rfl (.agg D) (HLA.out) ?_
        simp only[Act.put,sA,sB,sC];refine @Qas _ _ _ _ _ _ _ _ ?_ 124 rfl _ (HAZ.out _) ?_;kernel_rfl
        simp only[Act.put,sA,sB,sC];refine wpList_store_row rfl 124 _ _ rfl (wr.heap.size) D rfl rfl 124 Z (Qaa _ _) (HSZ.out) (HS0.out) (HAL.out) ?_
        simp only[Act.put];rw[World.setRow_alloc_new];clear t1;have kk:Kept wr.heap.size wr.heap.size wr (wr.alloc (.cells D 124)):=zI.alloc (zB _) _
        have K2:=hid (HK.out.next1 kk);have T2:=hid (rk HTB.out kk);have L2:=hid (Qaa wr (.cells D 124))
        clear kk;generalize wr.alloc (.cells D 124)=w2 at K2 T2 L2 |-
        obtain⟨lb,hlb⟩:∃lb,lb=wr.heap.size:=⟨_,rfl⟩;rw[<-hlb] at L2 |-;clear hlb;rw[HD.out] at L2;have c0:=Qqq L2.out;have c65:=Qek HOK.out L2.out;obtain⟨st,hst⟩:∃st,st=p.set:=⟨_,rfl⟩;rw[<-hst] at c0;have HSE:=hid hst;clear hst
        cases st with
        | true=>
         have HX:Hid (Tt.parentOk L i p=Tt.looseOk L (Bo.Behind (ln:Int) ((2*i+1:Nat):Int)) (Bo.First (ln:Int) ((2*i+1:Nat):Int)) p.loose):=hid (by rw[Tt.parentOk,<-HSE.out,zG rfl,HLN.out])
         go_upto_region 20 with fail
         refine zA ?_;iterate 4(refine wW λK hK=>?_;go_simp;apply hK;clear hK K)
         (iterate 16(refine @wpList_skip _ _ _ _ _ _ _ ?_ ?_;kernel_rfl;simp only[Act.put,sA,sB,sC]));refine wW λK hK=>?_;go_simp;apply hK;clear hK K;clear c0 c65;have hbd:=Bo.bounds ln ((2*i+1:Nat):Int);obtain⟨F,hF⟩:∃F,F=Bo.First (ln:Int) ((2*i+1:Nat):Int):=⟨_,rfl⟩;obtain⟨B,hB⟩:∃B,B=Bo.Behind (ln:Int) ((2*i+1:Nat):Int):=⟨_,rfl⟩;rw[<-hF,<-hB] at HX hbd;have HRH:Hid (∀(x:Int) (w:World),Calls Tryz.prog 99 #[.int .i64 (ln:Int),.int .i64 ((2*i+1:Nat):Int),.int .i64 x] w λe w'=>e=.returned (.bool (decide (F<=x)&&decide (x<B)))/\w'=w):=hid (λx w=>by rw[hF,hB];exact Qhs _ _ x w)
         have hii:(i:Int)<=64:=by have:=HLT.out;omega
         have hxi:IntKind.i64.wrap (IntKind.i64.wrap (2*(i:Int))+1)=((2*i+1:Nat):Int):=by
          rw[show IntKind.i64.wrap (2*(i:Int))=2*(i:Int) by rw[IntKind.wrap_i64];omega,IntKind.wrap_i64]
          omega
         have HXI:=hid hxi;have HF0:=hid hbd.1;have HBN:=hid hbd.2;clear hbd hF hB hxi hii;go_wp2
         go_loopw [9] (λs9 wr=>∃k:Nat,s9=.int .i64 (k:Int)/\∃fr:Int,Hid (k<=qn)/\Hid (Tt.looseOk L B F p.loose=Tt.looseOk L B fr (p.loose.drop k))/\Hid (F<=fr/\(k=0->fr=F)/\∀j (hj:j<p.loose.length),k=j+1->fr=p.loose[j]+1)/\Hid (wr.heap[tb]?=some (.cells #[.slice ad ln c,.slice (some ⟨pg,po,none⟩) pn pc] 45 (0,0)))/\Hid (wr.heap[lb]?=some (.cells (p.cells (.slice sad qn sc)).toArray 124 (0,0)))/\Hid (Kept w.heap.size w.heap.size w wr)) (λs9 _=>qn-(RowKit.intOf s9).toNat)
         case atStart=>exact⟨0,rfl,F,hid (Nat.zero_le _),hid rfl,hid ⟨Int.le_refl _,λ_=>rfl,λj _ h=>by omega⟩,T2,L2,K2⟩
         case round=>
          clear T2 L2 K2;obtain⟨k,rfl,fr,hk,HLQ,HFR,T3,L3,K3⟩:=hrel;have c65:=Qek HOK.out L3.out
          by_cases hlt:k<qn
          ·have hkL:k<p.loose.length:=by rw[<-HQN.out];exact hlt
           obtain⟨rfl,hg,hx⟩:=HSC.out k hkL;have hlti:(k:Int)<(qn:Int):=by omega
           have hk0:¬(k:Int)<0:=by omega
           have hcx:=(K3.out.cell (p:=⟨sg,so+k,none⟩) hg (zD hg)).trans hx;have HSQ:Hid (Tt.looseOk L B F p.loose=Tt.looseOk L B fr (p.loose[k]::p.loose.drop (k+1))):=hid (by rw[HLQ.out,List.drop_eq_getElem_cons hkL])
           have HPV:Hid (0<k->∃pv:Int,fr=pv+1/\wr.cell? ⟨sg,so+(k-1),none⟩=some (.int .i64 pv)):=hid (λh=>⟨p.loose[k-1],HFR.out.2.2 (k-1) (by omega) (by omega),(K3.out.cell (p:=⟨sg,so+(k-1),none⟩) hg (zD hg)).trans (HSC.out (k-1) (by omega)).2.2⟩)
           have HNX:Hid (∀j (hj:j<p.loose.length),k+1=j+1->p.loose[k]+1=p.loose[j]+1):=hid (λj hj h=>by
            obtain rfl:k=j:=by omega
            rfl)
           obtain⟨x,hxk⟩:∃x,x=p.loose[k]:=⟨_,rfl⟩;rw[<-hxk] at hcx HSQ HNX;have HLK:=hid hlt;have t0:=Qac T3.out;clear hxk hx hkL hg hk hlt
           go_upto_region 26 with fail
           by_cases hh:F<=x/\x<B
           ·have HH:=hid hh
            have HRX:Hid (∀w,Calls Tryz.prog 99 #[.int .i64 (ln:Int),.int .i64 ((2*i+1:Nat):Int),.int .i64 x] w λe w'=>e=.returned (.bool true)/\w'=w):=hid (λw=>by
             have:=HRH.out x w;rw[decide_eq_true hh.1,decide_eq_true hh.2] at this
             exact this)
            clear hh;obtain⟨px,rfl⟩:∃px:Nat,x=(px:Int):=⟨x.toNat,by have:=HF0.out;have:=HH.out.1;omega⟩
            have hpl:px<L.length:=by have:=HBN.out;have:=HLN.out;have:=HH.out.2;omega
            obtain⟨rfl,hg2,hok2,hr2⟩:=HC.out px hpl;have hpxi:(px:Int)<(ln:Int):=by have:=HLN.out;omega
            have hpx0:¬(px:Int)<0:=by omega
            have hcn0:w.cell? ⟨g,o+px*97,none⟩=some (.int .i64 L[px].name):=hr2 0 _ (by simp[Lf.cells])
            have hcn:=(K3.out.cell (p:=⟨g,o+px*97,none⟩) hg2 (zD hg2)).trans hcn0;rw[<-Tt.nameAt_eq hpl] at hcn;obtain⟨nm,hnm⟩:∃nm,nm=Tt.nameAt L (px:Int):=⟨_,rfl⟩;rw[<-hnm] at hcn;have HNM:=hid hnm;clear hnm hcn0 hr2 hok2 hg2 hpl
            by_cases hz:nm=0
            ·have hzb:(nm == 0)=true:=by rw[beq_iff_eq];exact hz
             have HZB:=hid hzb;clear hz;refine zA ?_;iterate 5(refine wW λK hK=>?_;go_simp;apply hK;clear hK K)
             refine wW λK hK=>?_;go_simp;go_at_call 99
             (try rw[HXI.out])
             refine(HRX.out _).mono ?_;rintro e w9 ⟨rfl,hw9⟩;subst w9;apply hK;clear hK K;iterate 11(refine wW λK hK=>?_;go_simp;apply hK;clear hK K)
             (iterate 12(refine @wpList_skip _ _ _ _ _ _ _ ?_ ?_;kernel_rfl;simp only[Act.put,sA,sB,sC]));refine wW λK hK=>?_;go_simp;apply hK;clear hK K;clear c65 t0 hlti hk0 hcx;clear hpxi hpx0 hcn hzb;go_wp2;go_ret;refine⟨?_,K3.out⟩
             have hf:Tt.right L P=false:=by
              have hq:Tt.looseOk L B F p.loose=false:=by
               rw[HSQ.out];unfold Tt.looseOk;rw[<-HNM.out,HZB.out];simp
              have hl:Tt.parentsOk L 0 P=false:=by
               rw[HST.out,Tt.parentsOk,HX.out,hq];rfl
              rw[HRT.out,hl];simp
             rw[hf];rfl
            ·have hzb:(nm == 0)=false:=by rw[beq_eq_false_iff_ne];exact hz
             have HZB:=hid hzb;clear hz
             by_cases hkz:0<k
             ·have hkz1:(k:Int) > 0:=by omega
              obtain⟨pv,hpv,hcp⟩:=HPV.out hkz;obtain⟨km,hkm⟩:∃km,km=k-1:=⟨_,rfl⟩;rw[<-hkm] at hcp;have hwk:IntKind.i64.wrap ((k:Int)-1)=(km:Int):=by rw[IntKind.wrap_i64];omega
              have hkm1:(km:Int)<(qn:Int):=by omega
              have hkm0:¬(km:Int)<0:=by omega
              have HPW:=hid hpv;clear hkm hpv
              by_cases hge:pv>=(px:Int)
              ·have HGE:=hid hge
               refine zA ?_;iterate 5(refine wW λK hK=>?_;go_simp;apply hK;clear hK K)
               refine wW λK hK=>?_;go_simp;go_at_call 99
               (try rw[HXI.out])
               refine(HRX.out _).mono ?_;rintro e w9 ⟨rfl,hw9⟩;subst w9;apply hK;clear hK K;iterate 24(refine wW λK hK=>?_;go_simp;apply hK;clear hK K)
               clear c65 t0 hlti hk0 hcx;clear hpxi hpx0 hcn hzb;clear hkz hkz1 hcp hwk hkm1 hkm0 hge;go_wp2;go_ret;refine⟨?_,K3.out⟩
               have hf:Tt.right L P=false:=by
                have hq:Tt.looseOk L B F p.loose=false:=by
                 rw[HSQ.out];unfold Tt.looseOk;rw[decide_eq_false (show ¬fr<=(px:Int) by have:=HGE.out;have:=HPW.out;omega)]
                 rfl
                have hl:Tt.parentsOk L 0 P=false:=by
                 rw[HST.out,Tt.parentsOk,HX.out,hq];rfl
                rw[HRT.out,hl];simp
               rw[hf];rfl
              ·have HGE:=hid (show fr<=(px:Int) by have:=HPW.out;omega)
               refine zA ?_;iterate 5(refine wW λK hK=>?_;go_simp;apply hK;clear hK K)
               refine wW λK hK=>?_;go_simp;go_at_call 99
               (try rw[HXI.out])
               refine(HRX.out _).mono ?_;rintro e w9 ⟨rfl,hw9⟩;subst w9;apply hK;clear hK K;iterate 24(refine wW λK hK=>?_;go_simp;apply hK;clear hK K)
               clear c65 t0 hk0 hcx;clear hpxi hpx0 hcn hzb;clear hkz hkz1 hcp hwk hkm1 hkm0 hge;go_wp2
               go_roundw
               case rel=>exact⟨k+1,by simp,(px:Int)+1,hid HLK.out,hid (by
                rw[HSQ.out,Tt.looseOk,decide_eq_true HGE.out,decide_eq_true HH.out.2,<-HNM.out,HZB.out]
                rfl),hid ⟨by have:=HH.out.1;omega,λh=>by omega,HNX.out⟩,T3,L3,K3⟩
               case measure=>have:=HLK.out;simp[RowKit.intOf];omega
             ·have hkz1:¬(k:Int) > 0:=by omega
              have HGE:=hid (show fr<=(px:Int) by have:=HFR.out.2.1 (by omega);have:=HH.out.1;omega)
              refine zA ?_;iterate 5(refine wW λK hK=>?_;go_simp;apply hK;clear hK K)
              refine wW λK hK=>?_;go_simp;go_at_call 99
              (try rw[HXI.out])
              refine(HRX.out _).mono ?_;rintro e w9 ⟨rfl,hw9⟩;subst w9;apply hK;clear hK K;iterate 14(refine wW λK hK=>?_;go_simp;apply hK;clear hK K)
              (iterate 8(refine @wpList_skip _ _ _ _ _ _ _ ?_ ?_;kernel_rfl;simp only[Act.put,sA,sB,sC]));iterate 2(refine wW λK hK=>?_;go_simp;apply hK;clear hK K)
              clear c65 t0 hk0 hcx;clear hpxi hpx0 hcn hzb;clear hkz hkz1;go_wp2
              go_roundw
              case rel=>exact⟨k+1,by simp,(px:Int)+1,hid HLK.out,hid (by
               rw[HSQ.out,Tt.looseOk,decide_eq_true HGE.out,decide_eq_true HH.out.2,<-HNM.out,HZB.out]
               rfl),hid ⟨by have:=HH.out.1;omega,λh=>by omega,HNX.out⟩,T3,L3,K3⟩
              case measure=>have:=HLK.out;simp[RowKit.intOf];omega
           ·have HH:=hid hh
            have HRX:Hid (∀w,Calls Tryz.prog 99 #[.int .i64 (ln:Int),.int .i64 ((2*i+1:Nat):Int),.int .i64 x] w λe w'=>e=.returned (.bool false)/\w'=w):=hid (λw=>by
             have:=HRH.out x w;rw[show(decide (F<=x)&&decide (x<B))=false by rw[Bool.and_eq_false_iff,decide_eq_false_iff_not,decide_eq_false_iff_not];omega] at this
             exact this)
            clear hh;refine zA ?_;iterate 5(refine wW λK hK=>?_;go_simp;apply hK;clear hK K)
            refine wW λK hK=>?_;go_simp;go_at_call 99
            (try rw[HXI.out])
            refine(HRX.out _).mono ?_;rintro e w9 ⟨rfl,hw9⟩;subst w9;apply hK;clear hK K;iterate 2(refine wW λK hK=>?_;go_simp;apply hK;clear hK K)
            (iterate 7(refine @wpList_skip _ _ _ _ _ _ _ ?_ ?_;kernel_rfl;simp only[Act.put,sA,sB,sC]));iterate 2(refine wW λK hK=>?_;go_simp;apply hK;clear hK K)
            (iterate 12(refine @wpList_skip _ _ _ _ _ _ _ ?_ ?_;kernel_rfl;simp only[Act.put,sA,sB,sC]));refine wW λK hK=>?_;go_simp;apply hK;clear hK K;clear c65 t0 hlti hk0 hcx;go_wp2;go_ret;refine⟨?_,K3.out⟩
            have hf:Tt.right L P=false:=by
             have hq:Tt.looseOk L B F p.loose=false:=by
              rw[HSQ.out];unfold Tt.looseOk
              by_cases h8:fr<=x
              ·rw[decide_eq_false (show ¬x<B from λh=>HH.out ⟨by have:=HFR.out.1;omega,h⟩)]
               simp
              ·rw[decide_eq_false h8]
               rfl
             have hl:Tt.parentsOk L 0 P=false:=by
              rw[HST.out,Tt.parentsOk,HX.out,hq];rfl
             rw[HRT.out,hl];simp
            rw[hf];rfl
          ·have hlti:¬(k:Int)<(qn:Int):=by omega
           have HOKP:Hid (Tt.parentOk L i p=true):=hid (by
            rw[HX.out,HLQ.out,List.drop_of_length_le (by have:=hk.out;rw[<-HQN.out];omega)]
            rfl)
           clear hlt hk;go_wp2;clear hlti c65
           go_roundw
           case rel=>exact⟨i+1,by simp,hid HLT.out,hid (by rw[HST.out,Tt.parentsOk,HOKP.out];rfl),T3,K3⟩
           case measure=>have:=HLT.out;simp[RowKit.intOf];omega
        | false=>
         have HPB:=hid (run_loadVar_mid w2 lb 1 23 (bY p.pub) _ (Qw0 HOK.out L2.out) Tryz.underlying23 rfl (hashInfoT (by rw[bZ,HOK.out.1])))
         have HAB:=hid (run_loadVar_mid w2 lb 33 23 (bY p.abv) _ (Qw1 HOK.out L2.out) Tryz.underlying23 rfl (hashInfoT (by rw[bZ,HOK.out.2])))
         have he1:=λw=>Qdv w p.pub Tt.z32 HOK.out.1 rfl
         have he2:=λw=>Qdv w p.abv Tt.z32 HOK.out.2 rfl
         rw[<-Qmi] at he1 he2;obtain⟨DP,hDP⟩:∃DP,DP=(bY p.pub).toArray:=⟨_,rfl⟩;obtain⟨DA,hDA⟩:∃DA,DA=(bY p.abv).toArray:=⟨_,rfl⟩;rw[<-hDP] at HPB he1;rw[<-hDA] at HAB he2;obtain⟨bp,hbp⟩:∃bp,bp=(p.pub == Tt.z32):=⟨_,rfl⟩;obtain⟨ba,hba⟩:∃ba,ba=(p.abv == Tt.z32):=⟨_,rfl⟩;rw[<-hbp] at he1;rw[<-hba] at he2;have gd:Tryz.prog.eqGuardType Tryz.prog.depth 23=false:=Qha
         have HBP:=hid hbp;have HBA:=hid hba;clear hDP hDA hbp hba
         cases bp with
         | false=>
          clear he2
          go_upto_region 20 with fail
          refine zA ?_;iterate 5(refine wW λK hK=>?_;go_simp;apply hK;clear hK K)
          refine wLk 23 (.tmp 89) rfl (lb) (1) rfl (.agg DP) (HPB.out) ?_
          simp only[Act.put,sA,sB,sC];refine @Qap _ _ _ _ _ _ _ ?_ 23 rfl _ (Qbz _) ?_;kernel_rfl
          simp only[Act.put,sA,sB,sC];iterate 2(refine wW λK hK=>?_;go_simp;apply hK;clear hK K)
          (iterate 4(refine @wpList_skip _ _ _ _ _ _ _ ?_ ?_;kernel_rfl;simp only[Act.put,sA,sB,sC]));iterate 2(refine wW λK hK=>?_;go_simp;apply hK;clear hK K)
          (iterate 4(refine @wpList_skip _ _ _ _ _ _ _ ?_ ?_;kernel_rfl;simp only[Act.put,sA,sB,sC]));iterate 2(refine wW λK hK=>?_;go_simp;apply hK;clear hK K)
          clear he1 gd c0 c65;go_wp2;go_ret;refine⟨?_,K2.out⟩
          have hf:Tt.right L P=false:=by
           have hl:Tt.parentsOk L 0 P=false:=by
            rw[HST.out,Tt.parentsOk,show Tt.parentOk L i p=false by rw[Tt.parentOk,<-HSE.out,if_neg Bool.false_ne_true,<-HBP.out];rfl];rfl
           rw[HRT.out,hl];simp
          rw[hf];rfl
         | true=>
          cases ba with
          | false=>
           go_upto_region 20 with fail
           refine zA ?_;iterate 5(refine wW λK hK=>?_;go_simp;apply hK;clear hK K)
           refine wLk 23 (.tmp 89) rfl (lb) (1) rfl (.agg DP) (HPB.out) ?_
           simp only[Act.put,sA,sB,sC];refine @Qap _ _ _ _ _ _ _ ?_ 23 rfl _ (Qbz _) ?_;kernel_rfl
           simp only[Act.put,sA,sB,sC];iterate 3(refine wW λK hK=>?_;go_simp;apply hK;clear hK K)
           refine wLk 23 (.tmp 94) rfl (lb) (33) rfl (.agg DA) (HAB.out) ?_
           simp only[Act.put,sA,sB,sC];refine @Qap _ _ _ _ _ _ _ ?_ 23 rfl _ (Qbz _) ?_;kernel_rfl
           simp only[Act.put,sA,sB,sC];iterate 3(refine wW λK hK=>?_;go_simp;apply hK;clear hK K)
           (iterate 4(refine @wpList_skip _ _ _ _ _ _ _ ?_ ?_;kernel_rfl;simp only[Act.put,sA,sB,sC]));iterate 2(refine wW λK hK=>?_;go_simp;apply hK;clear hK K)
           clear he1 he2 gd c0 c65;go_wp2;go_ret;refine⟨?_,K2.out⟩
           have hf:Tt.right L P=false:=by
            have hl:Tt.parentsOk L 0 P=false:=by
             rw[HST.out,Tt.parentsOk,show Tt.parentOk L i p=false by rw[Tt.parentOk,<-HSE.out,if_neg Bool.false_ne_true,<-HBP.out,<-HBA.out];rfl];rfl
            rw[HRT.out,hl];simp
           rw[hf];rfl
          | true=>
           by_cases hq:qn=0
           ·have hq1:¬(qn:Int) > 0:=by omega
            have hq2:¬0<qn:=by omega
            have HX:Hid (Tt.parentOk L i p=Tt.looseOk L (Bo.Behind (ln:Int) ((2*i+1:Nat):Int)) (Bo.First (ln:Int) ((2*i+1:Nat):Int)) p.loose):=hid (by
             have h0:p.loose=[]:=List.eq_nil_of_length_eq_zero (by rw[<-HQN.out];exact hq)
             rw[Tt.parentOk,<-HSE.out,if_neg Bool.false_ne_true,<-HBP.out,<-HBA.out,h0]
             rfl)
            clear hq
            go_upto_region 20 with fail
            refine zA ?_;iterate 5(refine wW λK hK=>?_;go_simp;apply hK;clear hK K)
            refine wLk 23 (.tmp 89) rfl (lb) (1) rfl (.agg DP) (HPB.out) ?_
            simp only[Act.put,sA,sB,sC];refine @Qap _ _ _ _ _ _ _ ?_ 23 rfl _ (Qbz _) ?_;kernel_rfl
            simp only[Act.put,sA,sB,sC];iterate 3(refine wW λK hK=>?_;go_simp;apply hK;clear hK K)
            refine wLk 23 (.tmp 94) rfl (lb) (33) rfl (.agg DA) (HAB.out) ?_
            simp only[Act.put,sA,sB,sC];refine @Qap _ _ _ _ _ _ _ ?_ 23 rfl _ (Qbz _) ?_;kernel_rfl
            simp only[Act.put,sA,sB,sC];iterate 9(refine wW λK hK=>?_;go_simp;apply hK;clear hK K)
            clear he1 he2 gd c0 c65;clear hq1 hq2;have hbd:=Bo.bounds ln ((2*i+1:Nat):Int);obtain⟨F,hF⟩:∃F,F=Bo.First (ln:Int) ((2*i+1:Nat):Int):=⟨_,rfl⟩;obtain⟨B,hB⟩:∃B,B=Bo.Behind (ln:Int) ((2*i+1:Nat):Int):=⟨_,rfl⟩;rw[<-hF,<-hB] at HX hbd;have HRH:Hid (∀(x:Int) (w:World),Calls Tryz.prog 99 #[.int .i64 (ln:Int),.int .i64 ((2*i+1:Nat):Int),.int .i64 x] w λe w'=>e=.returned (.bool (decide (F<=x)&&decide (x<B)))/\w'=w):=hid (λx w=>by rw[hF,hB];exact Qhs _ _ x w)
            have hii:(i:Int)<=64:=by have:=HLT.out;omega
            have hxi:IntKind.i64.wrap (IntKind.i64.wrap (2*(i:Int))+1)=((2*i+1:Nat):Int):=by
             rw[show IntKind.i64.wrap (2*(i:Int))=2*(i:Int) by rw[IntKind.wrap_i64];omega,IntKind.wrap_i64]
             omega
            have HXI:=hid hxi;have HF0:=hid hbd.1;have HBN:=hid hbd.2;clear hbd hF hB hxi hii;go_wp2
            go_loopw [9] (λs9 wr=>∃k:Nat,s9=.int .i64 (k:Int)/\∃fr:Int,Hid (k<=qn)/\Hid (Tt.looseOk L B F p.loose=Tt.looseOk L B fr (p.loose.drop k))/\Hid (F<=fr/\(k=0->fr=F)/\∀j (hj:j<p.loose.length),k=j+1->fr=p.loose[j]+1)/\Hid (wr.heap[tb]?=some (.cells #[.slice ad ln c,.slice (some ⟨pg,po,none⟩) pn pc] 45 (0,0)))/\Hid (wr.heap[lb]?=some (.cells (p.cells (.slice sad qn sc)).toArray 124 (0,0)))/\Hid (Kept w.heap.size w.heap.size w wr)) (λs9 _=>qn-(RowKit.intOf s9).toNat)
            case atStart=>exact⟨0,rfl,F,hid (Nat.zero_le _),hid rfl,hid ⟨Int.le_refl _,λ_=>rfl,λj _ h=>by omega⟩,T2,L2,K2⟩
            case round=>
             clear T2 L2 K2;obtain⟨k,rfl,fr,hk,HLQ,HFR,T3,L3,K3⟩:=hrel;have c65:=Qek HOK.out L3.out
             by_cases hlt:k<qn
             ·have hkL:k<p.loose.length:=by rw[<-HQN.out];exact hlt
              obtain⟨rfl,hg,hx⟩:=HSC.out k hkL;have hlti:(k:Int)<(qn:Int):=by omega
              have hk0:¬(k:Int)<0:=by omega
              have hcx:=(K3.out.cell (p:=⟨sg,so+k,none⟩) hg (zD hg)).trans hx;have HSQ:Hid (Tt.looseOk L B F p.loose=Tt.looseOk L B fr (p.loose[k]::p.loose.drop (k+1))):=hid (by rw[HLQ.out,List.drop_eq_getElem_cons hkL])
              have HPV:Hid (0<k->∃pv:Int,fr=pv+1/\wr.cell? ⟨sg,so+(k-1),none⟩=some (.int .i64 pv)):=hid (λh=>⟨p.loose[k-1],HFR.out.2.2 (k-1) (by omega) (by omega),(K3.out.cell (p:=⟨sg,so+(k-1),none⟩) hg (zD hg)).trans (HSC.out (k-1) (by omega)).2.2⟩)
              have HNX:Hid (∀j (hj:j<p.loose.length),k+1=j+1->p.loose[k]+1=p.loose[j]+1):=hid (λj hj h=>by
               obtain rfl:k=j:=by omega
               rfl)
              obtain⟨x,hxk⟩:∃x,x=p.loose[k]:=⟨_,rfl⟩;rw[<-hxk] at hcx HSQ HNX;have HLK:=hid hlt;have t0:=Qac T3.out;clear hxk hx hkL hg hk hlt
              go_upto_region 26 with fail
              by_cases hh:F<=x/\x<B
              ·have HH:=hid hh
               have HRX:Hid (∀w,Calls Tryz.prog 99 #[.int .i64 (ln:Int),.int .i64 ((2*i+1:Nat):Int),.int .i64 x] w λe w'=>e=.returned (.bool true)/\w'=w):=hid (λw=>by
                have:=HRH.out x w;rw[decide_eq_true hh.1,decide_eq_true hh.2] at this
                exact this)
               clear hh;obtain⟨px,rfl⟩:∃px:Nat,x=(px:Int):=⟨x.toNat,by have:=HF0.out;have:=HH.out.1;omega⟩
               have hpl:px<L.length:=by have:=HBN.out;have:=HLN.out;have:=HH.out.2;omega
               obtain⟨rfl,hg2,hok2,hr2⟩:=HC.out px hpl;have hpxi:(px:Int)<(ln:Int):=by have:=HLN.out;omega
               have hpx0:¬(px:Int)<0:=by omega
               have hcn0:w.cell? ⟨g,o+px*97,none⟩=some (.int .i64 L[px].name):=hr2 0 _ (by simp[Lf.cells])
               have hcn:=(K3.out.cell (p:=⟨g,o+px*97,none⟩) hg2 (zD hg2)).trans hcn0;rw[<-Tt.nameAt_eq hpl] at hcn;obtain⟨nm,hnm⟩:∃nm,nm=Tt.nameAt L (px:Int):=⟨_,rfl⟩;rw[<-hnm] at hcn;have HNM:=hid hnm;clear hnm hcn0 hr2 hok2 hg2 hpl
               by_cases hz:nm=0
               ·have hzb:(nm == 0)=true:=by rw[beq_iff_eq];exact hz
                have HZB:=hid hzb;clear hz;refine zA ?_;iterate 5(refine wW λK hK=>?_;go_simp;apply hK;clear hK K)
                refine wW λK hK=>?_;go_simp;go_at_call 99
                (try rw[HXI.out])
                refine(HRX.out _).mono ?_;rintro e w9 ⟨rfl,hw9⟩;subst w9;apply hK;clear hK K;iterate 11(refine wW λK hK=>?_;go_simp;apply hK;clear hK K)
                (iterate 12(refine @wpList_skip _ _ _ _ _ _ _ ?_ ?_;kernel_rfl;simp only[Act.put,sA,sB,sC]));refine wW λK hK=>?_;go_simp;apply hK;clear hK K;clear c65 t0 hlti hk0 hcx;clear hpxi hpx0 hcn hzb;go_wp2;go_ret;refine⟨?_,K3.out⟩
                have hf:Tt.right L P=false:=by
                 have hq:Tt.looseOk L B F p.loose=false:=by
                  rw[HSQ.out];unfold Tt.looseOk;rw[<-HNM.out,HZB.out];simp
                 have hl:Tt.parentsOk L 0 P=false:=by
                  rw[HST.out,Tt.parentsOk,HX.out,hq];rfl
                 rw[HRT.out,hl];simp
                rw[hf];rfl
               ·have hzb:(nm == 0)=false:=by rw[beq_eq_false_iff_ne];exact hz
                have HZB:=hid hzb;clear hz
                by_cases hkz:0<k
                ·have hkz1:(k:Int) > 0:=by omega
                 obtain⟨pv,hpv,hcp⟩:=HPV.out hkz;obtain⟨km,hkm⟩:∃km,km=k-1:=⟨_,rfl⟩;rw[<-hkm] at hcp;have hwk:IntKind.i64.wrap ((k:Int)-1)=(km:Int):=by rw[IntKind.wrap_i64];omega
                 have hkm1:(km:Int)<(qn:Int):=by omega
                 have hkm0:¬(km:Int)<0:=by omega
                 have HPW:=hid hpv;clear hkm hpv
                 by_cases hge:pv>=(px:Int)
                 ·have HGE:=hid hge
                  refine zA ?_;iterate 5(refine wW λK hK=>?_;go_simp;apply hK;clear hK K)
                  refine wW λK hK=>?_;go_simp;go_at_call 99
                  (try rw[HXI.out])
                  refine(HRX.out _).mono ?_;rintro e w9 ⟨rfl,hw9⟩;subst w9;apply hK;clear hK K;iterate 24(refine wW λK hK=>?_;go_simp;apply hK;clear hK K)
                  clear c65 t0 hlti hk0 hcx;clear hpxi hpx0 hcn hzb;clear hkz hkz1 hcp hwk hkm1 hkm0 hge;go_wp2;go_ret;refine⟨?_,K3.out⟩
                  have hf:Tt.right L P=false:=by
                   have hq:Tt.looseOk L B F p.loose=false:=by
                    rw[HSQ.out];unfold Tt.looseOk;rw[decide_eq_false (show ¬fr<=(px:Int) by have:=HGE.out;have:=HPW.out;omega)]
                    rfl
                   have hl:Tt.parentsOk L 0 P=false:=by
                    rw[HST.out,Tt.parentsOk,HX.out,hq];rfl
                   rw[HRT.out,hl];simp
                  rw[hf];rfl
                 ·have HGE:=hid (show fr<=(px:Int) by have:=HPW.out;omega)
                  refine zA ?_;iterate 5(refine wW λK hK=>?_;go_simp;apply hK;clear hK K)
                  refine wW λK hK=>?_;go_simp;go_at_call 99
                  (try rw[HXI.out])
                  refine(HRX.out _).mono ?_;rintro e w9 ⟨rfl,hw9⟩;subst w9;apply hK;clear hK K;iterate 24(refine wW λK hK=>?_;go_simp;apply hK;clear hK K)
                  clear c65 t0 hk0 hcx;clear hpxi hpx0 hcn hzb;clear hkz hkz1 hcp hwk hkm1 hkm0 hge;go_wp2
                  go_roundw
                  case rel=>exact⟨k+1,by simp,(px:Int)+1,hid HLK.out,hid (by
                   rw[HSQ.out,Tt.looseOk,decide_eq_true HGE.out,decide_eq_true HH.out.2,<-HNM.out,HZB.out]
                   rfl),hid ⟨by have:=HH.out.1;omega,λh=>by omega,HNX.out⟩,T3,L3,K3⟩
                  case measure=>have:=HLK.out;simp[RowKit.intOf];omega
                ·have hkz1:¬(k:Int) > 0:=by omega
                 have HGE:=hid (show fr<=(px:Int) by have:=HFR.out.2.1 (by omega);have:=HH.out.1;omega)
                 refine zA ?_;iterate 5(refine wW λK hK=>?_;go_simp;apply hK;clear hK K)
                 refine wW λK hK=>?_;go_simp;go_at_call 99
                 (try rw[HXI.out])
                 refine(HRX.out _).mono ?_;rintro e w9 ⟨rfl,hw9⟩;subst w9;apply hK;clear hK K;iterate 14(refine wW λK hK=>?_;go_simp;apply hK;clear hK K)
                 (iterate 8(refine @wpList_skip _ _ _ _ _ _ _ ?_ ?_;kernel_rfl;simp only[Act.put,sA,sB,sC]));iterate 2(refine wW λK hK=>?_;go_simp;apply hK;clear hK K)
                 clear c65 t0 hk0 hcx;clear hpxi hpx0 hcn hzb;clear hkz hkz1;go_wp2
                 go_roundw
                 case rel=>exact⟨k+1,by simp,(px:Int)+1,hid HLK.out,hid (by
                  rw[HSQ.out,Tt.looseOk,decide_eq_true HGE.out,decide_eq_true HH.out.2,<-HNM.out,HZB.out]
                  rfl),hid ⟨by have:=HH.out.1;omega,λh=>by omega,HNX.out⟩,T3,L3,K3⟩
                 case measure=>have:=HLK.out;simp[RowKit.intOf];omega
              ·have HH:=hid hh
               have HRX:Hid (∀w,Calls Tryz.prog 99 #[.int .i64 (ln:Int),.int .i64 ((2*i+1:Nat):Int),.int .i64 x] w λe w'=>e=.returned (.bool false)/\w'=w):=hid (λw=>by
                have:=HRH.out x w;rw[show(decide (F<=x)&&decide (x<B))=false by rw[Bool.and_eq_false_iff,decide_eq_false_iff_not,decide_eq_false_iff_not];omega] at this
                exact this)
               clear hh;refine zA ?_;iterate 5(refine wW λK hK=>?_;go_simp;apply hK;clear hK K)
               refine wW λK hK=>?_;go_simp;go_at_call 99
               (try rw[HXI.out])
               refine(HRX.out _).mono ?_;rintro e w9 ⟨rfl,hw9⟩;subst w9;apply hK;clear hK K;iterate 2(refine wW λK hK=>?_;go_simp;apply hK;clear hK K)
               (iterate 7(refine @wpList_skip _ _ _ _ _ _ _ ?_ ?_;kernel_rfl;simp only[Act.put,sA,sB,sC]));iterate 2(refine wW λK hK=>?_;go_simp;apply hK;clear hK K)
               (iterate 12(refine @wpList_skip _ _ _ _ _ _ _ ?_ ?_;kernel_rfl;simp only[Act.put,sA,sB,sC]));refine wW λK hK=>?_;go_simp;apply hK;clear hK K;clear c65 t0 hlti hk0 hcx;go_wp2;go_ret;refine⟨?_,K3.out⟩
               have hf:Tt.right L P=false:=by
                have hq:Tt.looseOk L B F p.loose=false:=by
                 rw[HSQ.out];unfold Tt.looseOk
                 by_cases h8:fr<=x
                 ·rw[decide_eq_false (show ¬x<B from λh=>HH.out ⟨by have:=HFR.out.1;omega,h⟩)]
                  simp
                 ·rw[decide_eq_false h8]
                  rfl
                have hl:Tt.parentsOk L 0 P=false:=by
                 rw[HST.out,Tt.parentsOk,HX.out,hq];rfl
                rw[HRT.out,hl];simp
               rw[hf];rfl
             ·have hlti:¬(k:Int)<(qn:Int):=by omega
              have HOKP:Hid (Tt.parentOk L i p=true):=hid (by
               rw[HX.out,HLQ.out,List.drop_of_length_le (by have:=hk.out;rw[<-HQN.out];omega)]
               rfl)
              clear hlt hk;go_wp2;clear hlti c65
              go_roundw
              case rel=>exact⟨i+1,by simp,hid HLT.out,hid (by rw[HST.out,Tt.parentsOk,HOKP.out];rfl),T3,K3⟩
              case measure=>have:=HLT.out;simp[RowKit.intOf];omega
           ·have hq1:(qn:Int) > 0:=by omega
            have hq2:0<qn:=by omega
            have HQ:=hid hq;clear hq
            go_upto_region 20 with fail
            refine zA ?_;iterate 5(refine wW λK hK=>?_;go_simp;apply hK;clear hK K)
            refine wLk 23 (.tmp 89) rfl (lb) (1) rfl (.agg DP) (HPB.out) ?_
            simp only[Act.put,sA,sB,sC];refine @Qap _ _ _ _ _ _ _ ?_ 23 rfl _ (Qbz _) ?_;kernel_rfl
            simp only[Act.put,sA,sB,sC];iterate 3(refine wW λK hK=>?_;go_simp;apply hK;clear hK K)
            refine wLk 23 (.tmp 94) rfl (lb) (33) rfl (.agg DA) (HAB.out) ?_
            simp only[Act.put,sA,sB,sC];refine @Qap _ _ _ _ _ _ _ ?_ 23 rfl _ (Qbz _) ?_;kernel_rfl
            simp only[Act.put,sA,sB,sC];iterate 9(refine wW λK hK=>?_;go_simp;apply hK;clear hK K)
            clear he1 he2 gd c0 c65;clear hq1 hq2;go_wp2;go_ret;refine⟨?_,K2.out⟩
            have hf:Tt.right L P=false:=by
             have hl:Tt.parentsOk L 0 P=false:=by
              rw[HST.out,Tt.parentsOk,show Tt.parentOk L i p=false by rw[Tt.parentOk,<-HSE.out,if_neg Bool.false_ne_true,<-HBP.out,<-HBA.out,<-HQN.out];simp[HQ.out]];rfl
             rw[HRT.out,hl];simp
            rw[hf];rfl
       ·have hnl:¬(i:Int)<(pn:Int):=by omega
        have HPO:Hid (Tt.parentsOk L 0 P=true):=hid (by
         rw[HEQ.out,List.drop_of_length_le (by have:=hi.out;rw[<-HPN.out];omega)]
         rfl)
        clear hlt hi HEQ;have t0:=Qac HTB.out;have HTL:=hid (show Tt.right L P = !Tt.lastBlank L by rw[HRT.out,HLO.out,HPO.out,Bool.and_true,Bool.and_true])
        by_cases h0:0<ln
        ·have h0z:((ln:Int) == 0)=false:=by rw[beq_eq_false_iff_ne];omega
         obtain⟨k,hk⟩:∃k,k=ln-1:=⟨_,rfl⟩;have hll:k<L.length:=by rw[<-HLN.out];omega
         obtain⟨rfl,hg,hok,hr⟩:=HC.out k hll
         have hnm:Tt.lastBlank L=(L[k].name == 0):=by
          unfold Tt.lastBlank;rw[<-HLN.out,decide_eq_true h0,<-hk,Tt.nameAt_eq hll]
          rfl
         have hwk:IntKind.i64.wrap ((ln:Int)-1)=(k:Int):=by rw[IntKind.wrap_i64];omega
         have hkl:(k:Int)<(ln:Int):=by omega
         have hk0:¬(k:Int)<0:=by omega
         have hck0:w.cell? ⟨g,o+k*97,none⟩=some (.int .i64 L[k].name):=hr 0 _ (by simp[Lf.cells])
         have hck:=(HK.out.cell (p:=⟨g,o+k*97,none⟩) hg (zD hg)).trans hck0;obtain⟨nm,hN⟩:∃nm,nm=L[k].name:=⟨_,rfl⟩;rw[<-hN] at hck hnm;have HNM:=hid hnm;clear hck0 hr hok hnm hg hN hll hk h0
         go_upto_region 28 with fail
         clear t1;refine zA ?_;iterate 13(refine wW λK hK=>?_;go_simp;apply hK;clear hK K)
         clear t0 hnl h0z hwk hkl hk0 hck;go_wp2;go_ret;refine⟨?_,HK.out⟩;rw[HTL.out,HNM.out];rfl
        ·have h0z:((ln:Int) == 0)=true:=by rw[beq_iff_eq];omega
         have HLB:Hid (Tt.lastBlank L=false):=hid (by
          unfold Tt.lastBlank
          rw[<-HLN.out,decide_eq_false h0];rfl)
         clear h0
         go_upto_region 28 with fail
         clear t1;refine zA ?_;iterate 3(refine wW λK hK=>?_;go_simp;apply hK;clear hK K)
         (iterate 8(refine @wpList_skip _ _ _ _ _ _ _ ?_ ?_;kernel_rfl;simp only[Act.put,sA,sB,sC]));iterate 2(refine wW λK hK=>?_;go_simp;apply hK;clear hK K)
         clear t0 hnl h0z;go_wp2;go_ret;refine⟨?_,HK.out⟩;rw[HTL.out,HLB.out];rfl
   ·have h2n:((pn:Int) != ((ln:Int)-1))=true:=by rw[bne,show((pn:Int) == ((ln:Int)-1))=false by rw[beq_eq_false_iff_ne];omega];rfl
    have h2m:((pn:Int) != ((ln-1:Nat):Int))=true:=by rw[bne,show((pn:Int) == ((ln-1:Nat):Int))=false by rw[beq_eq_false_iff_ne];omega];rfl
    have H2:=hid h2;refine zA ?_;iterate 15(refine wW λK hK=>?_;go_simp;apply hK;clear hK K)
    (iterate 8(refine @wpList_skip _ _ _ _ _ _ _ ?_ ?_;kernel_rfl;simp only[Act.put,sA,sB,sC]));refine wW λK hK=>?_;go_simp;apply hK;clear hK K;clear h1 h1i;clear h0 h0i h0z h0w h2 h2n h2m;go_wp2;go_ret;refine⟨?_,K1.out⟩
    have hf:Tt.right L P=false:=by
     rw[Tt.right,decide_eq_false (show ¬P.length=L.length-1 by have:=H2.out;rw[HLN.out,HPN.out] at this;exact this)];simp
    rw[hf];rfl
  ·have h0i:¬(ln:Int) > 0:=by omega
   have h0n:¬0<ln:=h0;have h0z:((ln:Int) == 0)=true:=by rw[beq_iff_eq];omega
   by_cases h2:0<pn
   ·have h2i:(pn:Int) > 0:=by omega
    have H2:=hid (show ¬pn=ln-1 by omega)
    refine zA ?_;iterate 6(refine wW λK hK=>?_;go_simp;apply hK;clear hK K)
    (iterate 6(refine @wpList_skip _ _ _ _ _ _ _ ?_ ?_;kernel_rfl;simp only[Act.put,sA,sB,sC]));iterate 12(refine wW λK hK=>?_;go_simp;apply hK;clear hK K)
    clear h1 h1i;clear h0 h0i h0z h2 h2i h0n;go_wp2;go_ret;refine⟨?_,K1.out⟩
    have hf:Tt.right L P=false:=by
     rw[Tt.right,decide_eq_false (show ¬P.length=L.length-1 by have:=H2.out;rw[HLN.out,HPN.out] at this;exact this)];simp
    rw[hf];rfl
   ·have h2i:¬(pn:Int) > 0:=by omega
    have H2:=hid (show pn=ln-1 by omega)
    refine zA ?_;iterate 6(refine wW λK hK=>?_;go_simp;apply hK;clear hK K)
    (iterate 6(refine @wpList_skip _ _ _ _ _ _ _ ?_ ?_;kernel_rfl;simp only[Act.put,sA,sB,sC]));iterate 12(refine wW λK hK=>?_;go_simp;apply hK;clear hK K)
    clear h1 h1i;have H0:=hid h0n;clear h0 h0i h0n h0z h2 h2i;have HRT:=hid (Tt.right_tail (L:=L) (P:=P) (by rw[<-HLN.out];exact H1.out) (by rw[<-HLN.out,<-HPN.out];exact H2.out))
    have hb9:(ln:Int)<=64:=by have:=H1.out;omega
    have hp9:(pn:Int)<=64:=by have:=H1.out;have:=H2.out;omega
    go_wp2;clear t0 t1
    go_loopw [4] (λs4 wr=>∃i:Nat,s4=.int .i64 (i:Int)/\∃M:List Int,Hid (i<=ln)/\Hid (Tt.leavesOk [] L=Tt.leavesOk M (L.drop i))/\Hid (∀y,1<=y->M.contains y=(L.take i).any (λl=>l.name == y))/\Hid (wr.heap[tb]?=some (.cells #[.slice ad ln c,.slice pad pn pc] 45 (0,0)))/\Hid (Kept w.heap.size w.heap.size w wr)) (λs4 _=>ln-(RowKit.intOf s4).toNat)
    case atStart=>exact⟨0,rfl,[],hid (Nat.zero_le _),hid rfl,hid (λ_ _=>rfl),T1,K1⟩
    case round=>
     obtain⟨i,rfl,M,hi,HEQ,HME,HTB,HK⟩:=hrel
     by_cases hlt:i<ln
     ·exact absurd hlt (by have:=H0.out;omega)
     ·have hnl:¬(i:Int)<(ln:Int):=by omega
      have HLO:Hid (Tt.leavesOk [] L=true):=hid (by
       rw[HEQ.out,List.drop_of_length_le (by have:=hi.out;rw[<-HLN.out];omega)]
       rfl)
      clear hlt hi HEQ HME;have t1:=Qab HTB.out;go_wp2;clear hnl t1
      go_loopw [7] (λs7 wr=>∃i:Nat,s7=.int .i64 (i:Int)/\Hid (i<=pn)/\Hid (Tt.parentsOk L 0 P=Tt.parentsOk L i (P.drop i))/\Hid (wr.heap[tb]?=some (.cells #[.slice ad ln c,.slice pad pn pc] 45 (0,0)))/\Hid (Kept w.heap.size w.heap.size w wr)) (λs7 _=>pn-(RowKit.intOf s7).toNat)
      case atStart=>exact⟨0,rfl,hid (Nat.zero_le _),hid rfl,HTB,HK⟩
      case round=>
       clear HTB HK;obtain⟨i,rfl,hi,HEQ,HTB,HK⟩:=hrel;have t1:=Qab HTB.out
       by_cases hlt:i<pn
       ·exact absurd hlt (by have:=H0.out;have:=H2.out;omega)
       ·have hnl:¬(i:Int)<(pn:Int):=by omega
        have HPO:Hid (Tt.parentsOk L 0 P=true):=hid (by
         rw[HEQ.out,List.drop_of_length_le (by have:=hi.out;rw[<-HPN.out];omega)]
         rfl)
        clear hlt hi HEQ;have t0:=Qac HTB.out;have HTL:=hid (show Tt.right L P = !Tt.lastBlank L by rw[HRT.out,HLO.out,HPO.out,Bool.and_true,Bool.and_true])
        by_cases h0:0<ln
        ·have h0z:((ln:Int) == 0)=false:=by rw[beq_eq_false_iff_ne];omega
         obtain⟨k,hk⟩:∃k,k=ln-1:=⟨_,rfl⟩;have hll:k<L.length:=by rw[<-HLN.out];omega
         obtain⟨rfl,hg,hok,hr⟩:=HC.out k hll
         have hnm:Tt.lastBlank L=(L[k].name == 0):=by
          unfold Tt.lastBlank;rw[<-HLN.out,decide_eq_true h0,<-hk,Tt.nameAt_eq hll]
          rfl
         have hwk:IntKind.i64.wrap ((ln:Int)-1)=(k:Int):=by rw[IntKind.wrap_i64];omega
         have hkl:(k:Int)<(ln:Int):=by omega
         have hk0:¬(k:Int)<0:=by omega
         have hck0:w.cell? ⟨g,o+k*97,none⟩=some (.int .i64 L[k].name):=hr 0 _ (by simp[Lf.cells])
         have hck:=(HK.out.cell (p:=⟨g,o+k*97,none⟩) hg (zD hg)).trans hck0;obtain⟨nm,hN⟩:∃nm,nm=L[k].name:=⟨_,rfl⟩;rw[<-hN] at hck hnm;have HNM:=hid hnm;clear hck0 hr hok hnm hg hN hll hk h0
         go_upto_region 28 with fail
         clear t1;refine zA ?_;iterate 13(refine wW λK hK=>?_;go_simp;apply hK;clear hK K)
         clear t0 hnl h0z hwk hkl hk0 hck;go_wp2;go_ret;refine⟨?_,HK.out⟩;rw[HTL.out,HNM.out];rfl
        ·have h0z:((ln:Int) == 0)=true:=by rw[beq_iff_eq];omega
         have HLB:Hid (Tt.lastBlank L=false):=hid (by
          unfold Tt.lastBlank
          rw[<-HLN.out,decide_eq_false h0];rfl)
         clear h0
         go_upto_region 28 with fail
         clear t1;refine zA ?_;iterate 3(refine wW λK hK=>?_;go_simp;apply hK;clear hK K)
         (iterate 8(refine @wpList_skip _ _ _ _ _ _ _ ?_ ?_;kernel_rfl;simp only[Act.put,sA,sB,sC]));iterate 2(refine wW λK hK=>?_;go_simp;apply hK;clear hK K)
         clear t0 hnl h0z;go_wp2;go_ret;refine⟨?_,HK.out⟩;rw[HTL.out,HLB.out];rfl
def Bo.memN:List Nat->Nat->Bool
 | [],_=>false
 | y::D,i=>if Nat.beq y i then true else Bo.memN D i
def Bo.chk (a:Nat)(D:List Nat):List (Nat × Nat × Nat)->Bool
 | []=>true
 | (i,f,b)::T=>if Bo.memN D i == (if Nat.ble f a then Nat.blt a b else false) then Bo.chk a D T else false
def Bo.tab (n:Nat):List (Nat × Nat × Nat):=(List.range (n-1)).map λi=>(i,(Bo.part n (2*i+1)).1,(Bo.part n (2*i+1)).1+(Bo.part n (2*i+1)).2.1)
def Bo.dh (n:Nat):Bool:=(List.range n).all λa=>Bo.chk a ((Bo.ups n ((2*a:Nat):Int)).map λy=>y.toNat/2) (Bo.tab n)
namespace Tt
def Qyc (n x:Int)(P:List Pr)(i:Nat):List Pr:=if Bo.Holds n ((2*i+1:Nat):Int) x then P.set i Pr.zero else P
def holdsTo (n x:Int)(P:List Pr):Nat->List Pr
 | 0=>P
 | k+1=>Qyc n x (holdsTo n x P k) k
end Tt
def lenAt (w:World)(b:Nat):Nat:=
 match w.heap[b]? with
 | some (Obj.cells cs _ _)=>(match cs[0]? with|some (Value.slice _ n _)=>n|_=>0)
 | _=>0
namespace Tt
def lf (n:Int):Lf:=⟨n,z32,z32,z32⟩
end Tt
section
variable {P:Program} {ops:Array Oper} {rest:List Oper} {o:Oper} {a:Act} {w w':World} {Q:Exit->Act->World->Prop}
end
theorem Mine.none (B:Nat->Prop)(w:World)(hb:∀k,B k->k<w.heap.size):Mine B w (.slice none 0 0) (.slice none 0 0) [] [] []:=
 { lok:=λ_ h=>nomatch h
   pok:=λ_ h=>nomatch h
   lo:=OwnC.nil _ _ _ _
   len:=rfl
   po:=OwnC.nil _ _ _ _
   so:=λ_ _ _ h=>by simp at h
   dlp:=.inl rfl
   dls:=λ_ h=>nomatch h
   dps:=λ_ h=>nomatch h
   dss:=λ_ _ _ _ _ h=>by simp at h
   ol:=λ_ h=>nomatch h
   op:=λ_ h=>nomatch h
   os:=λ_ h=>nomatch h
   bnd:=hb }
namespace Tt
def trees:Nat->List Lf × List Pr
 | 0=>([],[])
 | 1=>([lf 5],[])
 | 2=>([lf 5,lf 2],[Pr.zero])
 | 3=>([lf 5,lf 2,lf 9],[Pr.zero,Pr.zero])
 | 4=>([lf 5,Lf.zero,lf 9],[Pr.zero,Pr.zero])
 | 5=>([lf 5,lf 7,lf 9],[Pr.zero,Pr.zero])
 | _=>([lf 5,lf 7],[Pr.zero])
end Tt
namespace Tt
def noneErr (L:List Lf)(x:Int):Int:=if none L x then 7 else 0
def renL (L:List Lf)(x:Int)(pub:List UInt8):List Lf:=if none L x then [] else(match L[x.toNat]? with|some l=>L.set x.toNat (renewed l pub)|_=>[])
def renP (L:List Lf)(P:List Pr)(x:Int):List Pr:=if none L x then [] else blanks (Bo.Direct L.length x) P
def outL (L:List Lf)(x:Int):List Lf:=if none L x then [] else remL L x.toNat
def outP (L:List Lf)(P:List Pr)(x:Int):List Pr:=if none L x then [] else remP L P x.toNat
end Tt
section
variable (lv pv:Value) (L:List Lf) (P:List Pr) (x:Int) (w:World) (hL:Lvs w lv L) (hP:Pts w pv P) (hpl:∀p∈P,p.loose.length<=1000) (hr:Tt.right L P=true)
include hL hP hpl hr
end
def Bo.nodN:List Nat->Bool
 | []=>true
 | y::D=>if Bo.memN D y then false else Bo.nodN D
def Bo.dn (n:Nat):Bool:=(List.range n).all λa=>Bo.nodN ((Bo.ups n ((2*a:Nat):Int)).map λy=>y.toNat/2)
namespace Tt
def Qwl (n:Int)(x:Nat)(P:List Pr)(i:Nat):List Pr:=
 match P[i]? with
 | Option.some p=>if(p.set&&Bo.Holds n ((2*i+1:Nat):Int) (x:Int))=true then P.set i (loosened x p) else P
 | Option.none=>P
def holdPuts (n:Int)(x:Nat)(P:List Pr):Nat->List Pr
 | 0=>P
 | k+1=>Qwl n x (holdPuts n x P k) k
end Tt
section
variable {B:Nat->Prop} {w:World} {lv:Value} {g n c:Nat} {L:List Lf} {P:List Pr} {SL:List Value}
end
namespace Tt
def leafText (l:Lf):List UInt8:=if 0<l.name then [1]++Wm.enc l.name.toNat++l.pub++l.ver++l.abv else [0]
def looseText (l:List Int):List UInt8:=(l.map λy=>Wm.enc y.toNat).flatten
def parentText (p:Pr):List UInt8:=if p.set then [1]++p.pub++p.abv++Wm.enc p.loose.length++looseText p.loose else [0]
end Tt
section
variable {w:World} {b:Nat} {l:Lf} {t:TypeId}
end
namespace Tt
def leafB:List UInt8:=[108,101,97,102]
def nodeB:List UInt8:=[110,111,100,101]
def hashSeg (L:List Lf)(P:List Pr):Nat->Nat->Nat->List UInt8
 | 0,_,_=>[]
 | k+1,a,m=>if m=1 then Sm.sum (leafB++leafText (L.getD a Lf.zero)) else Sm.sum (nodeB++parentText (P.getD (Bo.root a m/2) Pr.zero)++hashSeg L P k a (Bo.half m)++hashSeg L P k (a+Bo.half m) (m-Bo.half m))
end Tt
structure Tt.Fine (L:List Lf) (P:List Pr):Prop where
 n64:L.length<=64
 par:P.length=L.length-1
 nms:∀l∈L,0<=l.name/\l.name<=64
 len:∀p∈P,p.loose.length<=1000
 lse:∀p∈P,∀y∈p.loose,0<=y/\y<=64
namespace Tt
def aboveB:List UInt8:=[97,98,111,118,101]
def saidOf (k s h:List UInt8):List UInt8:=Sm.sum (aboveB++k++s++h)
end Tt
namespace Tt
def said (ks:List (List UInt8))(H:Nat->List UInt8):Nat->Nat->List UInt8
 | 0,_=>List.replicate 32 0
 | d+1,j=>saidOf (ks.getD j []) (said ks H d (j+1)) (H j)
end Tt
namespace Tt
def noneB:List UInt8:=[110,111,110,101]
def treeHash (L:List Lf)(P:List Pr):List UInt8:=if L.length=0 then Sm.sum noneB else hashSeg L P L.length 0 L.length
end Tt
namespace Tt
def hashNode (L:List Lf)(P:List Pr)(x:Nat):List UInt8:=hashSeg L P L.length (Bo.part L.length x).1 (Bo.part L.length x).2.1
def nodeHash (L:List Lf)(P:List Pr)(x:Int):List UInt8:=if 0<=x/\x<=2*(L.length:Int)-2 then hashNode L P x.toNat else List.replicate 32 0
end Tt
section
variable (lv pv:Value) (L:List Lf) (P:List Pr) (hF:Tt.Fine L P) (x:Nat) (hx:Bo.In 0 L.length x) (w:World) (hL:Lvs w lv L) (hP:Pts w pv P)
include hF hx hL hP
end
namespace Tt
def setAll (I:List (Nat × Pr))(P:List Pr):List Pr:=I.foldl (λQ x=>Q.set x.1 x.2) P
def pitem (ws:List Int)(ks:List (List UInt8))(H:Nat->List UInt8)(i:Nat):Nat × Pr:=((ws.getD i 0).toNat/2,⟨true,ks.getD i [],said ks H (ws.length-1-i) (i+1),[]⟩)
def pitems (ws:List Int)(ks:List (List UInt8))(H:Nat->List UInt8):List (Nat × Pr):=(List.range ws.length).map (pitem ws ks H)
def down (ws:List Int)(ks:List (List UInt8))(H:Nat->List UInt8)(P:List Pr)(k:Nat):List Pr:=setAll ((pitems ws ks H).drop k).reverse P
def upto (ws:List Int)(ks:List (List UInt8))(H:Nat->List UInt8)(P:List Pr)(k:Nat):List Pr:=setAll ((pitems ws ks H).take k) P
section
variable (ws:List Int) (ks:List (List UInt8)) (H:Nat->List UInt8) (P:List Pr)
end
def wayX (ws:List Int)(place:Int):Nat->Int
 | 0=>2*place
 | j+1=>ws.getD j 0
def sideH (L:List Lf)(P:List Pr)(ws:List Int)(place:Int)(j:Nat):List UInt8:=hashNode L P (Bo.Beside L.length (wayX ws place j)).toNat
def pathWay (L:List Lf)(x:Int):List Int:=Bo.Direct L.length x
def pathErr (L:List Lf)(x:Int)(kn:Nat):Int:=if none L x then 7 else if(pathWay L x).length=kn then 0 else 16
def pathL (L:List Lf)(P:List Pr)(x:Int)(pub:List UInt8)(ks:List (List UInt8)):List Lf:=
 if pathErr L x ks.length=0 then(match L[x.toNat]? with|some l=>L.set x.toNat { l with pub:=pub,abv:=said ks (sideH L P (pathWay L x) x) (pathWay L x).length 0 } | _=>[]) else []
def pathP (L:List Lf)(P:List Pr)(x:Int)(ks:List (List UInt8)):List Pr:=
 if pathErr L x ks.length=0 then upto (pathWay L x) ks (sideH L P (pathWay L x) x) P (pathWay L x).length else []
end Tt
def Bo.cut (n:Nat):Bool:=(List.range (n-1)).all λi=>let D:=Bo.part n (2*i+1);let E:=Bo.part 64 (2*i+1);Nat.beq D.1 E.1&&Nat.beq (D.1+D.2.1) (min n (E.1+E.2.1))
namespace Tt
theorem leavesOk_iff:∀ (L:List Lf) (M:List Int),leavesOk M L=true↔∀i (hi:i<L.length),L[i]=Lf.zero\/(1<=L[i].name/\L[i].name<=64/\L[i].name∉M/\∀j (hj:j<i),(L[j]'(Nat.lt_trans hj hi)).name≠L[i].name)
 | [],_=>⟨λ_ i hi=>absurd hi (Nat.not_lt_zero _),λ_=>rfl⟩
 | l::L,M=>by
  rw[leavesOk]
  by_cases hz:l.same Lf.zero=true
  ·rw[zG hz,leavesOk_iff L M]
   have hlz:=Lf.same_iff.1 hz
   constructor
   ·intro h i hi
    cases i with
    | zero=>exact .inl hlz
    | succ i=>
     rcases h i (Nat.lt_of_succ_lt_succ hi) with h1|⟨h1,h2,h3,h4⟩
     ·exact .inl h1
     ·refine .inr ⟨h1,h2,h3,λj hj=>?_⟩
      cases j with
      | zero=>
       show l.name≠(L[i]'(Nat.lt_of_succ_lt_succ hi)).name;have h5:l.name=0:=by rw[hlz];rfl
       omega
      | succ j=>exact h4 j (Nat.lt_of_succ_lt_succ hj)
   ·intro h i hi
    rcases h (i+1) (Nat.succ_lt_succ hi) with h1|⟨h1,h2,h3,h4⟩
    ·exact .inl h1
    ·exact .inr ⟨h1,h2,h3,λj hj=>h4 (j+1) (Nat.succ_lt_succ hj)⟩
  ·rw[if_neg hz]
   have hlz:l≠Lf.zero:=λe=>hz (Lf.same_iff.2 e)
   have hcm:(!M.contains l.name)=true↔l.name∉M:=by simp
   rw[Bool.and_eq_true,Bool.and_eq_true,Bool.and_eq_true,decide_eq_true_eq,decide_eq_true_eq,hcm,leavesOk_iff L (l.name::M)]
   constructor
   ·rintro⟨g1,g2,g3,g4⟩ i hi
    cases i with
    | zero=>exact .inr ⟨g1,g2,g3,λj hj=>absurd hj (Nat.not_lt_zero _)⟩
    | succ i=>
     rcases g4 i (Nat.lt_of_succ_lt_succ hi) with h1|⟨h1,h2,h3,h4⟩
     ·exact .inl h1
     ·rw[List.mem_cons,not_or] at h3
      refine .inr ⟨h1,h2,h3.2,λj hj=>?_⟩
      cases j with
      | zero=>exact λe=>h3.1 e.symm
      | succ j=>exact h4 j (Nat.lt_of_succ_lt_succ hj)
   ·intro h
    have g0:=(h 0 (Nat.succ_pos _)).resolve_left hlz;refine⟨g0.1,g0.2.1,g0.2.2.1,λi hi=>?_⟩
    rcases h (i+1) (Nat.succ_lt_succ hi) with h1|⟨h1,h2,h3,h4⟩
    ·exact .inl h1
    ·refine .inr ⟨h1,h2,?_,λj hj=>h4 (j+1) (Nat.succ_lt_succ hj)⟩
     rw[List.mem_cons,not_or];exact⟨λe=>h4 0 (Nat.succ_pos _) e.symm,h3⟩
theorem right_iff (L:List Lf)(P:List Pr):right L P=true↔L.length<=64/\P.length=L.length-1/\lastBlank L=false/\leavesOk [] L=true/\parentsOk L 0 P=true:=by
 simp only[right,Bool.and_eq_true,decide_eq_true_eq,Bool.not_eq_true']
end Tt
theorem Tt.place_same10 {L:List Lf}{P:List Pr}(h:Tt.right L P=true)(y:Int):Tt.place L P y=Tt.rplace L y:=by
 have hnm:=(Tt.leavesOk_iff L []).1 ((Tt.right_iff L P).1 h).2.2.2.1;unfold Tt.place Tt.rplace;rw[h,Bool.and_true]
 by_cases h1:1<=y
 ·by_cases h3:y<=64
  ·rw[decide_eq_true h1,decide_eq_true h3,Bool.and_self,zG rfl,zG (by omega)]
  ·rw[decide_eq_false h3,Bool.and_false,if_neg (by decide),zG (by omega)]
   exact(Tt.index_none λj hj e=>by
    rcases hnm j hj with h5|⟨_,h5,_⟩
    ·rw[h5] at e
     have:Lf.zero.name=0:=rfl
     omega
    ·omega).symm
 ·rw[decide_eq_false h1,Bool.false_and,if_neg (by decide),if_neg (by omega)]
end Go.Proofs.YtnlbgggnpoeleaaGreatDoor
