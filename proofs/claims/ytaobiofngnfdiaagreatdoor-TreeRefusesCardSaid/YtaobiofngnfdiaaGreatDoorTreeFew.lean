/-
 The laws' look at a tree's size.
-/
import Derived.Test.YtaobiofngnfdiaaGreatDoorTreeRight
set_option maxRecDepth 100000
set_option maxHeartbeats 6400000
namespace Go.Proofs.YtaobiofngnfdiaaGreatDoor
open Go.RowKit Go.Lib
open List renaming setIfInBounds_toArray → sA, set_cons_zero → sB, set_cons_succ → sC
open BigFrame renaming wpList_want → wQ
namespace Tt
def fewp (P:List Pr):Bool:=P.all fun p=>decide (p.loose.length≤100)
def few (L:List Lf)(P:List Pr):Bool:=decide (L.length≤100) && (decide (P.length≤100) && fewp P)
end Tt
theorem few_calls8 (lv pv:Value)(L:List Lf)(P:List Pr)(w:World)(hL:Lvs w lv L)(hP:Pts w pv P):
  Calls Tryz.prog 10 #[.agg #[lv,pv]] w fun e w'=>e = .returned (.bool (Tt.few L P))∧Kept w.heap.size w.heap.size w w':=by
 obtain⟨lad,lc,rfl⟩:=hL.shape;obtain⟨ad,g,o,c,rfl,hc,_⟩:=hP;obtain⟨ln,hln⟩:∃ ln,ln = L.length:=⟨_,rfl⟩;obtain⟨pn,hpn⟩:∃ pn,pn = P.length:=⟨_,rfl⟩;have HLN:=hid hln;have HPN:=hid hpn;rw [← hln,← hpn];have HC:=hid hc;clear hc hln hpn hL;have hk1:Kept w.heap.size w.heap.size w (w.alloc (.cells #[.slice lad ln lc,.slice ad pn c] 27)):=(Kept.refl _ _ _).alloc (Nat.le_refl _) _
 have ht1:=heap_new w (.cells #[.slice lad ln lc,.slice ad pn c] 27)
 have K1:=hid hk1;have T1:=hid ht1;clear hk1 ht1
 go_enter Tryz.func10,Tryz.ntmps10
 go_upto_region 1 with fail
 generalize w.alloc (.cells #[.slice lad ln lc,.slice ad pn c] 27) = w1 at K1 T1 ⊢
 obtain⟨tb,htb⟩:∃ tb,tb = w.heap.size:=⟨_,rfl⟩;rw [← htb] at T1 ⊢;clear htb;have t0:=two_cell0 T1.out;have t1:=two_cell1 T1.out
 by_cases h1:100 < ln
 ·have h1i:(ln:Int) > 100:=by omega
  have H1:=hid h1;refine wp_region_lit ?_;iterate 5 (refine @wQ _ _ _ _ _ _ _ ?_ ?_;kernel_rfl;intro K hK;go_simp;refine hK _ _ ?_;clear hK K)
  refine @wpList_skip _ _ _ _ _ _ _ ?_ ?_;kernel_rfl;simp only [Act.put,sA,sB,sC];refine @wpList_skip _ _ _ _ _ _ _ ?_ ?_;kernel_rfl;simp only [Act.put,sA,sB,sC];refine @wpList_skip _ _ _ _ _ _ _ ?_ ?_;kernel_rfl;simp only [Act.put,sA,sB,sC];refine @wpList_skip _ _ _ _ _ _ _ ?_ ?_;kernel_rfl;simp only [Act.put,sA,sB,sC];refine @wQ _ _ _ _ _ _ _ ?_ ?_;kernel_rfl;intro K hK;go_simp;refine hK _ _ ?_;clear hK K;clear h1 h1i;go_wp2;go_ret;refine⟨?_,K1.out⟩
  have hf:Tt.few L P = false:=by
   rw [Tt.few,decide_eq_false (show ¬ L.length≤100 by have:=H1.out; have:=HLN.out; omega)]; rfl
  rw [hf]; rfl
 ·have h1i:¬ (ln:Int) > 100:=by omega
  have H1:=hid h1
  by_cases h2:100 < pn
  ·have h2i:(pn:Int) > 100:=by omega
   have H2:=hid h2;refine wp_region_lit ?_;iterate 10 (refine @wQ _ _ _ _ _ _ _ ?_ ?_;kernel_rfl;intro K hK;go_simp;refine hK _ _ ?_;clear hK K)
   clear h1 h1i h2 h2i;go_wp2;go_ret;refine⟨?_,K1.out⟩
   have hf:Tt.few L P = false:=by
    rw [Tt.few,decide_eq_false (show ¬ P.length≤100 by have:=H2.out; have:=HPN.out; omega)]; simp
   rw [hf]; rfl
  ·have h2i:¬ (pn:Int) > 100:=by omega
   have H2:=hid h2;refine wp_region_lit ?_;iterate 10 (refine @wQ _ _ _ _ _ _ _ ?_ ?_;kernel_rfl;intro K hK;go_simp;refine hK _ _ ?_;clear hK K)
   have hp9:(pn:Int)≤100:=by omega
   have hfe:Tt.few L P = Tt.fewp P:=by
    rw [Tt.few,decide_eq_true (show L.length≤100 by have:=HLN.out; omega),decide_eq_true (show P.length≤100 by have:=HPN.out; omega)]
    rfl
   have HFE:=hid hfe;clear h1 h1i h2 h2i hfe t0;go_wp2;clear t1
   go_loopw [3] (fun s3 wr=>∃ i:Nat,s3 = .int .i64 (i:Int)∧Hid (i≤pn)∧Hid (Tt.few L P = Tt.fewp (P.drop i))∧Hid (wr.heap[tb]? = some (.cells #[.slice lad ln lc,.slice ad pn c] 27 (0,0)))∧Hid (Kept w.heap.size w.heap.size w wr)) (fun s3 _=>pn - (RowKit.intOf s3).toNat)
   case atStart=>exact⟨0,rfl,hid (Nat.zero_le _),HFE,T1,K1⟩
   case round=>
    obtain⟨i,rfl,hi,HEQ,HTB,HK⟩:=hrel;have t1:=two_cell1 HTB.out
    by_cases hlt:i < pn
    ·have hiL:i < P.length:=by rw [← HPN.out]; exact hlt
     obtain⟨rfl,hg,hok,sl,hr,hns⟩:=HC.out i hiL;obtain⟨sad,sc,rfl⟩:=hns.shape;have hlti:(i:Int) < (pn:Int):=by omega
     have hi0:¬ (i:Int) < 0:=by omega
     have hst:Tt.few L P = Tt.fewp (P[i] :: P.drop (i + 1)):=by rw [HEQ.out,List.drop_eq_getElem_cons hiL]
     have hr2:=rangeAt_kept HK.out hr hg (Nat.ne_of_lt hg);have hcl:wr.cell? ⟨g,o + i * 66 + 65,none⟩ = some (.slice sad P[i].loose.length sc):=hr2 65 _ (by simp [Pr.cells,bcells_length,hok.1,hok.2])
     clear hr hr2 hns;generalize P[i] = p at hst hcl hok;have HLT:=hid hlt;have HST:=hid hst;obtain⟨qn,hqn⟩:∃ qn,qn = p.loose.length:=⟨_,rfl⟩;rw [← hqn] at hcl;have HQN:=hid hqn;clear hst hok hlt hi hg hiL hqn
     by_cases hq:100 < qn
     ·have hqi:(qn:Int) > 100:=by omega
      have HQ:=hid hq;clear hq
      go_upto_region 6 with fail
      refine wp_region_lit ?_;iterate 8 (refine @wQ _ _ _ _ _ _ _ ?_ ?_;kernel_rfl;intro K hK;go_simp;refine hK _ _ ?_;clear hK K)
      clear hqi t1 hcl;go_wp2;go_ret;refine⟨?_,HK.out⟩
      have hf:Tt.few L P = false:=by
       rw [HST.out,Tt.fewp,List.all_cons,decide_eq_false (show ¬ p.loose.length≤100 by have:=HQ.out; have:=HQN.out; omega)]; rfl
      rw [hf]; rfl
     ·have hqi:¬ (qn:Int) > 100:=by omega
      have HQ:=hid hq;clear hq
      go_upto_region 6 with fail
      refine wp_region_lit ?_;iterate 8 (refine @wQ _ _ _ _ _ _ _ ?_ ?_;kernel_rfl;intro K hK;go_simp;refine hK _ _ ?_;clear hK K)
      clear hqi t1 hcl;go_wp2
      go_roundw
      case rel=>exact⟨i + 1,by simp,hid HLT.out,hid (by rw [HST.out,Tt.fewp,List.all_cons,decide_eq_true (show p.loose.length≤100 by have:=HQ.out; have:=HQN.out; omega)]; rfl),HTB,HK⟩
      case measure=>have:=HLT.out; simp [RowKit.intOf]; omega
    ·have hnl:¬ (i:Int) < (pn:Int):=by omega
     have HE:=hid (show i = pn by have:=hi.out; omega)
     clear hlt hi;go_wp2;go_ret;refine⟨?_,HK.out⟩
     have h1:Tt.few L P = true:=by
      rw [HEQ.out,List.drop_of_length_le (by rw [HE.out,HPN.out]; exact Nat.le_refl _)]
      rfl
     rw [h1]; rfl
end Go.Proofs.YtaobiofngnfdiaaGreatDoor
