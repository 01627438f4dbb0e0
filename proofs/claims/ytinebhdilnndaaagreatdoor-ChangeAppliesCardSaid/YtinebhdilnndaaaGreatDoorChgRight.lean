/-
 Is a proposal right? Landed and the document's.
-/
import Derived.Test.YtinebhdilnndaaaGreatDoorIB
set_option maxRecDepth 100000
set_option maxHeartbeats 6400000
namespace Go.Proofs.YtinebhdilnndaaaGreatDoor
open Go.RowKit Go.Lib
open List renaming setIfInBounds_toArray -> sA, set_cons_zero -> sB, set_cons_succ -> sC
open BigFrame renaming wpList_want -> wQ
theorem Cm.kinds_2 {p:Cg}(h:p.kind = 2):Cm.kinds p = (p.name == p.author):=by rw [Cm.kinds,if_pos h]
theorem Cm.kinds_z {p:Cg}(h:p.kind = 1\/p.kind = 3):Cm.kinds p = (p.pub == Cm.z32):=by rw [Cm.kinds,if_neg (by omega),if_pos h]
theorem Cm.kinds_n {p:Cg}(h:p.kind≠2)(h1:p.kind≠1)(h3:p.kind≠3):Cm.kinds p = false:=by rw [Cm.kinds,if_neg h,if_neg (by omega)]
theorem right_calls10 (p:Cg)(hp:p.Ok)(w:World):Calls Tryz.prog 24 #[.agg p.cells.toArray] w λe w'=>e = .returned (.bool (Cm.right p))/\Kept w.heap.size w.heap.size w w':=by
 have R1:=heap_new w (.cells p.cells.toArray 46)
 have k1:Kept w.heap.size w.heap.size w (w.alloc (.cells p.cells.toArray 46)):=(Kept.refl _ _ _).alloc (Nat.le_refl _) _
 have c1:=cg_depth R1 hp;have c2:=cg_author R1 hp;have c3:=cg_seq R1 hp;have c4:=chg_kind (cg_chg R1 hp);have c5:(w.alloc (.cells p.cells.toArray 46)).cell? ⟨w.heap.size,36,none⟩ = some (.int .i64 p.name):=chg_name (cg_chg R1 hp)
 have hpb:=load_hash (chg_pub (cg_chg R1 hp)) hp.2.1;have hch:=load_chg (cg_chg R1 hp) hp;have HCH:=hid hch;have hcs:=Cg.csize hp;have hall:=p.call;have heq:=λw=>hash_equalIn w p.pub Cm.z32 hp.2.1 rfl
 have hR:Cm.right p = (Cm.nums p.depth p.seq && (Cm.isNm p.author && Cm.isNm p.name) && Cm.kinds p):=rfl;have hk2:p.kind = 2->Cm.kinds p = (p.name == p.author):=Cm.kinds_2;have hkz:(p.kind = 1\/p.kind = 3)->Cm.kinds p = (p.pub == Cm.z32):=Cm.kinds_z;have hkn:p.kind≠2->p.kind≠1->p.kind≠3->Cm.kinds p = false:=Cm.kinds_n;have HNM:=hid (λn x=>isname_calls10 n x)
 have hcb:∀ (x:World) (b:Nat),x.heap[b]? = some (.cells p.chg.toArray 44 (0,0))->x.cell? ⟨b,0,none⟩ = some (.int .i64 p.kind)/\x.cell? ⟨b,1,none⟩ = some (.int .i64 p.name)/\(loadVar 30 ⟨b,2,none⟩).run Tryz.prog x = .ok (.agg (bcells p.pub).toArray) x:=λx b h=>⟨chg_kind (row_range0 h),chg_name (row_range0 h),load_hash (chg_pub (row_range0 h)) hp.2.1⟩
 generalize p.depth = dp at c1 hR;generalize p.seq = sq at c3 hR;generalize p.author = au at c2 hR hk2;generalize p.kind = kd at c4 hk2 hkz hkn hcb;generalize p.name = nm at c5 hR hk2 hcb;generalize (p.pub == Cm.z32) = qz at heq hkz;generalize (bcells p.pub).toArray = cpb at hpb heq hcb;have hb0:=build_hash0;generalize (bcells Cm.z32).toArray = cz at heq hb0;have HB0:=hid hb0;clear hb0;have HPB:=hid hpb;have HEQ:=hid heq;have HR:=hid hR;have HK2:=hid hk2;have HKZ:=hid hkz;have HKN:=hid hkn;have HCB:=hid hcb;have HCS:=hid hcs;have HAL:=hid hall;clear hpb heq hR hk2 hkz hkn hcb hcs hall hch
 go_enter Tryz.func24,Tryz.ntmps24
 go_upto_region 1 with fail
 generalize hdd:p.cells.toArray = D at R1 k1 c1 c2 c3 c4 c5 HPB HCH |-;generalize w.alloc (.cells D 46) = w1 at R1 k1 c1 c2 c3 c4 c5 HPB HCH |-
 obtain⟨lb,hlb⟩:∃ lb,lb = w.heap.size:=⟨_,rfl⟩;rw [<- hlb] at c1 c2 c3 c4 c5 HPB |-;have K1:=hid k1;clear hlb k1 R1 hdd HCH
 by_cases n1:dp < 0
 ·have n1':=n1
  have HF:=hid (show Cm.right p = false by
    rw [HR.out,show Cm.nums dp sq = false by
     simp only [Cm.nums,Bool.and_eq_false_iff,decide_eq_false_iff_not]
     omega]
    rfl)
  go_wp2;go_ret;rw [HF.out];exact⟨by first | rfl | simp,K1.out⟩
 ·by_cases n2:dp > 4611686018427387903
  ·have n2':=n2
   have HF:=hid (show Cm.right p = false by
     rw [HR.out,show Cm.nums dp sq = false by
      simp only [Cm.nums,Bool.and_eq_false_iff,decide_eq_false_iff_not]
      omega]
     rfl)
   go_wp2;go_ret;rw [HF.out];exact⟨by first | rfl | simp,K1.out⟩
  ·by_cases n3:sq < 1
   ·have n3':=n3
    have HF:=hid (show Cm.right p = false by
      rw [HR.out,show Cm.nums dp sq = false by
       simp only [Cm.nums,Bool.and_eq_false_iff,decide_eq_false_iff_not]
       omega]
      rfl)
    go_wp2;go_ret;rw [HF.out];exact⟨by first | rfl | simp,K1.out⟩
   ·by_cases n4:sq > 4611686018427387903
    ·have n4':=n4
     have HF:=hid (show Cm.right p = false by
       rw [HR.out,show Cm.nums dp sq = false by
        simp only [Cm.nums,Bool.and_eq_false_iff,decide_eq_false_iff_not]
        omega]
       rfl)
     go_wp2;go_ret;rw [HF.out];exact⟨by first | rfl | simp,K1.out⟩
    ·have hnn:Cm.nums dp sq = true:=by
      simp only [Cm.nums,Bool.and_eq_true,decide_eq_true_eq]
      omega
     have HR2:Hid (Cm.right p = ((Cm.isNm au && Cm.isNm nm) && Cm.kinds p)):=hid (by rw [HR.out,hnn,Bool.true_and])
     clear hnn
     cases hA:Cm.isNm au
     ·have HNA:=hid (λx=>by have:=HNM.out au x; rw [hA] at this; exact this)
      have HF:=hid (show Cm.right p = false by rw [HR2.out,hA]; rfl)
      go_wp2_with (go_at_call 52; refine(HNA.out _).mono ?_; rintro e w9 ⟨rfl,rfl⟩)
      go_ret;rw [HF.out];exact⟨by first | rfl | simp,K1.out⟩
     ·have HNA:=hid (λx=>by have:=HNM.out au x; rw [hA] at this; exact this)
      cases hB:Cm.isNm nm
      ·have HNB:=hid (λx=>by have:=HNM.out nm x; rw [hB] at this; exact this)
       have HF:=hid (show Cm.right p = false by rw [HR2.out,hA,hB]; rfl)
       go_wp2_with (first | (go_at_call 52; refine(HNB.out _).mono ?_; rintro e w9 ⟨rfl,rfl⟩) | (go_at_call 52; refine(HNA.out _).mono ?_; rintro e w9 ⟨rfl,rfl⟩))
       go_ret;rw [HF.out];exact⟨by first | rfl | simp,K1.out⟩
      ·have HNB:=hid (λx=>by have:=HNM.out nm x; rw [hB] at this; exact this)
       have HR3:Hid (Cm.right p = Cm.kinds p):=hid (by rw [HR2.out,hA,hB]; rfl)
       clear hA hB
       by_cases e2:kd = 2
       ·have HF:Hid (Cm.right p = (nm == au)):=hid (by rw [HR3.out,HK2.out e2])
        subst e2
        go_wp2_with (first | (go_at_call 52; refine(HNB.out _).mono ?_; rintro e w9 ⟨rfl,rfl⟩) | (go_at_call 52; refine(HNA.out _).mono ?_; rintro e w9 ⟨rfl,rfl⟩))
        go_ret;rw [HF.out];exact⟨by first | rfl | simp,K1.out⟩
       ·have b2:(kd == 2) = false:=beq_eq_false_iff_ne.2 e2
        by_cases e1:kd = 1
        ·have HF:Hid (Cm.right p = qz):=hid (by rw [HR3.out,HKZ.out (.inl e1)])
         subst e1;clear e2
         go_upto_region 10 with (first | (go_at_call 52; refine(HNB.out _).mono ?_; rintro e w9 ⟨rfl,rfl⟩) | (go_at_call 52; refine(HNA.out _).mono ?_; rintro e w9 ⟨rfl,rfl⟩))
         refine wp_region_lit ?_;iterate 2 (refine wW λK hK=>?_;go_simp;apply hK;clear hK K)
         refine wLk 30 (.tmp 47) rfl (lb) (37) rfl (.agg cpb) (HPB.out) ?_
         simp only [Act.put,sA,sB,sC];refine @wpL_build0 _ _ _ _ _ _ _ ?_ 30 rfl _ (HB0.out _) ?_;kernel_rfl
         simp only [Act.put,sA,sB,sC];refine @wpL_eql10 _ _ _ _ _ _ _ ?_ _ _ _ _ rfl (cpb) (cz) rfl rfl macGuard25 (qz) (HEQ.out _) ?_;kernel_rfl;simp only [Act.put,sA,sB,sC];refine wW λK hK=>?_;go_simp;apply hK;clear hK K;go_wp2;go_ret;rw [HF.out];exact⟨by first | rfl | simp,K1.out⟩
        ·have b1:(kd == 1) = false:=beq_eq_false_iff_ne.2 e1
         by_cases e3:kd = 3
         ·have HF:Hid (Cm.right p = qz):=hid (by rw [HR3.out,HKZ.out (.inr e3)])
          subst e3;clear b1 e1;clear e2
          go_upto_region 10 with (first | (go_at_call 52; refine(HNB.out _).mono ?_; rintro e w9 ⟨rfl,rfl⟩) | (go_at_call 52; refine(HNA.out _).mono ?_; rintro e w9 ⟨rfl,rfl⟩))
          refine wp_region_lit ?_;iterate 2 (refine wW λK hK=>?_;go_simp;apply hK;clear hK K)
          refine wLk 30 (.tmp 47) rfl (lb) (37) rfl (.agg cpb) (HPB.out) ?_
          simp only [Act.put,sA,sB,sC];refine @wpL_build0 _ _ _ _ _ _ _ ?_ 30 rfl _ (HB0.out _) ?_;kernel_rfl
          simp only [Act.put,sA,sB,sC];refine @wpL_eql10 _ _ _ _ _ _ _ ?_ _ _ _ _ rfl (cpb) (cz) rfl rfl macGuard25 (qz) (HEQ.out _) ?_;kernel_rfl;simp only [Act.put,sA,sB,sC];refine wW λK hK=>?_;go_simp;apply hK;clear hK K;go_wp2;go_ret;rw [HF.out];exact⟨by first | rfl | simp,K1.out⟩
         ·have b3:(kd == 3) = false:=beq_eq_false_iff_ne.2 e3
          have HF:Hid (Cm.right p = false):=hid (by rw [HR3.out,HKN.out e2 e1 e3])
          clear e1 e2 e3
          go_wp2_with (first | (go_at_call 52; refine(HNB.out _).mono ?_; rintro e w9 ⟨rfl,rfl⟩) | (go_at_call 52; refine(HNA.out _).mono ?_; rintro e w9 ⟨rfl,rfl⟩))
          go_ret;rw [HF.out];exact⟨by first | rfl | simp,K1.out⟩
end Go.Proofs.YtinebhdilnndaaaGreatDoor
