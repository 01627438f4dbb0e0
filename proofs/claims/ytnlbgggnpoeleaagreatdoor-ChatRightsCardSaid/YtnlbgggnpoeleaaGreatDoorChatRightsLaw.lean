/-
 The law ChatRights.
-/
import Derived.Test.YtnlbgggnpoeleaaGreatDoorCE
import Derived.Test.YtnlbgggnpoeleaaGreatDoorCG
set_option maxRecDepth 100000
set_option maxHeartbeats 12800000
namespace Go.Proofs.YtnlbgggnpoeleaaGreatDoor
open Go.RowKit Go.Lib
open List renaming setIfInBounds_toArray -> sA, set_cons_zero -> sB, set_cons_succ -> sC
open BigFrame renaming wpList_want -> wQ
theorem Cn.long_not_right {n:Nt}(h:(5000:Int) < (n.text.size:Int)):Cn.right n = false:=by
 cases hr:Cn.right n with
 | false=>rfl
 | true=>
  have:=Cn.text_of_right hr
  omega
theorem chatrights_walk (n:Nt)(hn:n.ep.length = 32)(w:World)(tab:Tab2 w):
  Calls Tryz.prog 5 #[.agg n.cells.toArray] w λe w'=>e = .returned (.bool true)/\Kept w.heap.size w.heap.size w w':=by
 have HAW:=hid (λ(x:World) (k:Kept w.heap.size w.heap.size w x)=>awake_calls14 x (tab.kept k))
 have HRT:=hid (λ(x:World)=>noteright_calls n hn x)
 have HRR:=hid (λ(x:World)=>refnoteright_calls n hn x)
 have HPK:=hid (λ(x:World) (k:Kept w.heap.size w.heap.size w x)=>pack_calls14 n hn x (tab.kept k).t)
 have HPR:=hid (λ(hr:Cn.right n = true) (x:World)=>refpack_calls14 n hn hr x)
 have HLN:=hid (λ(u:World) (nb:Nat) (h:u.heap[nb]? = some (.cells n.cells.toArray 25 (0,0)))=>load_note hn h)
 have HLC:=hid (λ(u:World) (nb:Nat) (h:u.heap[nb]? = some (.cells n.cells.toArray 25 (0,0)))=>(note_cell hn h).2.2.2)
 have HLG:=hid (λ(h:(5000:Int) < (n.text.size:Int))=>Cn.long_not_right h)
 have HPZ:=hid (show Cn.right n = false->Cn.packed n = ⟨#[]⟩ from λh=>by rw [Cn.packed,h]; rfl)
 obtain⟨ND,hND⟩:∃ x,x = n.cells.toArray:=⟨_,rfl⟩;rw [<- hND] at HRT HRR HPK HPR HLN HLC |-;obtain⟨pk,hpk⟩:∃ x,x = Cn.packed n:=⟨_,rfl⟩;rw [<- hpk] at HPK HPR HPZ;obtain⟨rt,hrt⟩:∃ x,x = Cn.right n:=⟨_,rfl⟩;rw [<- hrt] at HRT HRR HPR HLG HPZ;obtain⟨tx,htx⟩:∃ x,x = n.text:=⟨_,rfl⟩;rw [<- htx] at HLC HLG;clear hn hND hpk hrt htx tab
 go_enter Tryz.func5,Tryz.ntmps5
 go_upto_region 0 with fail
 refine wp_region_lit ?_;iterate 2 (refine wW λK hK=>?_;go_simp;apply hK;clear hK K)
 have kn:Kept w.heap.size w.heap.size w (w.alloc (.cells ND 25)):=(Kept.refl _ _ _).alloc (Nat.le_refl _) _
 have rn:=heap_new w (.cells ND 25)
 generalize w.alloc (.cells ND 25) = w1 at kn rn |-
 obtain⟨nb,hnb⟩:∃ x,x = w.heap.size:=⟨_,rfl⟩;rw [<- hnb] at rn
 (try rw [<- hnb])
 have RN:=hid rn;have K1:=hid kn;have c35:=HLC.out _ _ rn;clear kn rn hnb
 by_cases hlg:(5000:Int) < (tx.size:Int)
 ·obtain rfl:=HLG.out hlg
  go_upto_region 1 with fail
  refine wp_region_lit ?_;iterate 4 (refine wW λK hK=>?_;go_simp;apply hK;clear hK K)
  go_upto_region 2 with fail
  refine wp_region_lit ?_;refine wW λK hK=>?_;go_simp;go_at_call 6
  refine(HAW.out _ K1.out).mono ?_;rintro e w2 ⟨rfl,kx⟩;have K2:=hid (K1.out.onto kx);have RN2:=hid (row_kept RN.out kx);clear kx;apply hK;clear hK K;refine wW λK hK=>?_;go_simp;apply hK;clear hK K;refine wLk 25 (.tmp 1) rfl (nb) (0) rfl (.agg ND) (HLN.out _ _ RN2.out) ?_
  simp only [Act.put,sA,sB,sC];refine wW λK hK=>?_;go_simp;go_at_call 13
  refine(HRT.out _).mono ?_;rintro e w3 ⟨rfl,kx⟩;have K3:=hid (K2.out.onto kx);clear kx;apply hK;clear hK K;iterate 3 (refine wW λK hK=>?_;go_simp;apply hK;clear hK K)
  go_wp2;go_ret;exact⟨rfl,K3.out⟩
 ·clear HLG
  go_upto_region 1 with fail
  refine wp_region_lit ?_;iterate 4 (refine wW λK hK=>?_;go_simp;apply hK;clear hK K)
  go_upto_region 3 with fail
  refine wp_region_lit ?_;refine wLk 25 (.tmp 1) rfl (nb) (0) rfl (.agg ND) (HLN.out _ _ RN.out) ?_
  simp only [Act.put,sA,sB,sC];refine wW λK hK=>?_;go_simp;go_at_call 12
  refine(HRR.out _).mono ?_;rintro e w2 ⟨rfl,kx⟩;have K2:=hid (K1.out.onto kx);have RN2:=hid (row_kept RN.out kx);clear kx;apply hK;clear hK K;refine wW λK hK=>?_;go_simp;apply hK;clear hK K;have KD:Kept w2.heap.size w2.heap.size w2 w2.drew:=(Kept.refl _ _ _).drew
  cases rt with
  | true=>
   go_upto_region 4 with fail
   refine wp_region_noPanic ?_;refine wp_region_held_drew (S:=λw'=>Kept w2.heap.size w2.heap.size w2 w') (by kernel_rfl) (KD) (λhH=>?_)
   refine wpAnyH_ready (rs:=[0]) (by kernel_rfl) (by simp) ?_
   refine AllReadyH.cons rfl (λK hK=>?_) AllReadyH.nil
   rw [if_pos (by rfl)]
   go_simp
   go_wp2_with (go_at_call 6; refine(HAW.out _ (K2.out.onto KD)).mono ?_; rintro e x1 ⟨rfl,kx1⟩)
   have X1:Kept w2.heap.size w2.heap.size w2 x1:=KD.trans (kx1.mono KD.size (λi hi _=>Nat.ne_of_lt (Nat.lt_of_lt_of_le hi KD.size)))
   refine hK.out _ _ (X1) (λhH=>?_)
   clear hK K;refine tkE (i:=1) 17 rfl hH ?_
   apply Exists.intro;apply And.intro
   ·intro w9 _
    go_simp
    first | done | rfl
   simp only [sA,sB,sC];refine tkA (i:=2) 18 (.agg ND) rfl (yieldsIf_load_known (by kernel_rfl) 25 _ rfl (nb) (0) rfl (.agg ND) (λx k=>HLN.out x nb (row_kept RN2.out k))) hH ?_
   simp only [sA,sB,sC];refine tkE (i:=4) 20 rfl hH ?_
   apply Exists.intro;apply And.intro
   ·intro w9 _
    go_simp
    first | done | rfl
   simp only [sA,sB,sC];refine wpAnyH_ready (rs:=[3]) (by kernel_rfl) (by simp) ?_
   refine AllReadyH.cons rfl (λK hK=>?_) AllReadyH.nil
   rw [if_pos (by rfl)]
   go_simp
   go_wp2_with (go_at_call 13; refine(HRT.out _).mono ?_; rintro e x2 ⟨rfl,kx2⟩)
   have X2:Kept w2.heap.size w2.heap.size w2 x2:=X1.trans (kx2.mono X1.size (λi hi _=>Nat.ne_of_lt (Nat.lt_of_lt_of_le hi X1.size)))
   refine hK.out _ _ (X2) (λhH=>?_)
   clear hK K;refine tkE (i:=5) 21 rfl hH ?_
   apply Exists.intro;apply And.intro
   ·intro w9 _
    go_simp
    first | done | rfl
   simp only [sA,sB,sC];refine tkE (i:=6) 22 rfl hH ?_
   apply Exists.intro;apply And.intro
   ·intro w9 _
    go_simp
    first | done | rfl
   simp only [sA,sB,sC];refine tkE (i:=7) 23 rfl hH ?_
   apply Exists.intro;apply And.intro
   ·intro w9 _
    go_simp
    first | done | rfl
   simp only [sA,sB,sC];refine tkE (i:=8) 24 rfl hH ?_
   apply Exists.intro;apply And.intro
   ·intro w9 _
    go_simp
    first | done | rfl
   simp only [sA,sB,sC];refine tkE (i:=9) 25 rfl hH ?_
   apply Exists.intro;apply And.intro
   ·intro w9 _
    go_simp
    first | done | rfl
   simp only [sA,sB,sC];refine tkA (i:=10) 26 (.agg ND) rfl (yieldsIf_load_known (by kernel_rfl) 25 _ rfl (nb) (0) rfl (.agg ND) (λx k=>HLN.out x nb (row_kept RN2.out k))) hH ?_
   simp only [sA,sB,sC];refine tkA (i:=12) 28 (.agg ND) rfl (yieldsIf_load_known (by kernel_rfl) 25 _ rfl (nb) (0) rfl (.agg ND) (λx k=>HLN.out x nb (row_kept RN2.out k))) hH ?_
   simp only [sA,sB,sC];refine wpAnyH_ready (rs:=[11]) (by kernel_rfl) (by simp) ?_
   refine AllReadyH.cons rfl (λK hK=>?_) AllReadyH.nil
   rw [if_pos (by rfl)]
   go_simp
   go_wp2_with (go_at_call 9; refine(HPK.out _ (K2.out.onto X2)).mono ?_; rintro e x3 ⟨rfl,kx3⟩)
   have X3:Kept w2.heap.size w2.heap.size w2 x3:=X2.trans (kx3.mono X2.size (λi hi _=>Nat.ne_of_lt (Nat.lt_of_lt_of_le hi X2.size)))
   refine hK.out _ _ (X3) (λhH=>?_)
   clear hK K;refine wpAnyH_ready (rs:=[13]) (by kernel_rfl) (by simp) ?_
   refine AllReadyH.cons rfl (λK hK=>?_) AllReadyH.nil
   rw [if_pos (by rfl)]
   go_simp
   go_wp2_with (go_at_call 14; refine(HPR.out (by trivial) _).mono ?_; rintro e x4 ⟨rfl,kx4⟩)
   have X4:Kept w2.heap.size w2.heap.size w2 x4:=X3.trans (kx4.mono X3.size (λi hi _=>Nat.ne_of_lt (Nat.lt_of_lt_of_le hi X3.size)))
   refine hK.out _ _ (X4) (λhH=>?_)
   clear hK K;refine tkA (i:=14) 30 (.bool true) rfl (.inl ⟨by kernel_rfl,λw9 h9=>by go_simp⟩) hH ?_
   simp only [sA,sB,sC];refine tkE (i:=15) 31 rfl hH ?_
   apply Exists.intro;apply And.intro
   ·intro w9 _
    go_simp
    first | done | rfl
   simp only [sA,sB,sC];refine tkE (i:=16) 32 rfl hH ?_
   apply Exists.intro;apply And.intro
   ·intro w9 _
    go_simp
    first | done | rfl
   simp only [sA,sB,sC];refine tkA (i:=17) 33 undef rfl (.inr ⟨by kernel_rfl,rfl⟩) hH ?_
   simp only [sA,sB,sC];refine tkA (i:=18) 34 undef rfl (.inr ⟨by kernel_rfl,rfl⟩) hH ?_
   simp only [sA,sB,sC];refine tkA (i:=19) 35 undef rfl (.inr ⟨by kernel_rfl,rfl⟩) hH ?_
   simp only [sA,sB,sC];refine tkA (i:=20) 36 undef rfl (.inr ⟨by kernel_rfl,rfl⟩) hH ?_
   simp only [sA,sB,sC];refine tkA (i:=21) 37 undef rfl (.inr ⟨by kernel_rfl,rfl⟩) hH ?_
   simp only [sA,sB,sC];refine tkA (i:=22) 38 undef rfl (.inr ⟨by kernel_rfl,rfl⟩) hH ?_
   simp only [sA,sB,sC];refine tkA (i:=23) 39 undef rfl (.inr ⟨by kernel_rfl,rfl⟩) hH ?_
   simp only [sA,sB,sC];refine tkE (i:=24) 40 rfl hH ?_
   apply Exists.intro;apply And.intro
   ·intro w9 _
    go_simp
    first | done | rfl
   simp only [sA,sB,sC];refine tkE (i:=25) 41 rfl hH ?_
   apply Exists.intro;apply And.intro
   ·intro w9 _
    go_simp
    first | done | rfl
   simp only [sA,sB,sC];refine tkE (i:=26) 2 rfl hH ?_
   apply Exists.intro;apply And.intro
   ·intro w9 _
    go_simp
    first | done | rfl
   simp only [sA,sB,sC];refine wpAnyH_done (by kernel_rfl) ?_ _
   refine NoPanic.normal ?_;go_wp2;go_ret;exact⟨rfl,K2.out.onto X4⟩
  | false=>
   obtain rfl:=HPZ.out (by trivial)
   go_upto_region 4 with fail
   refine wp_region_noPanic ?_;refine wp_region_held_drew (S:=λw'=>Kept w2.heap.size w2.heap.size w2 w') (by kernel_rfl) (KD) (λhH=>?_)
   refine wpAnyH_ready (rs:=[0]) (by kernel_rfl) (by simp) ?_
   refine AllReadyH.cons rfl (λK hK=>?_) AllReadyH.nil
   rw [if_pos (by rfl)]
   go_simp
   go_wp2_with (go_at_call 6; refine(HAW.out _ (K2.out.onto KD)).mono ?_; rintro e x1 ⟨rfl,kx1⟩)
   have X1:Kept w2.heap.size w2.heap.size w2 x1:=KD.trans (kx1.mono KD.size (λi hi _=>Nat.ne_of_lt (Nat.lt_of_lt_of_le hi KD.size)))
   refine hK.out _ _ (X1) (λhH=>?_)
   clear hK K;refine tkE (i:=1) 17 rfl hH ?_
   apply Exists.intro;apply And.intro
   ·intro w9 _
    go_simp
    first | done | rfl
   simp only [sA,sB,sC];refine tkA (i:=2) 18 (.agg ND) rfl (yieldsIf_load_known (by kernel_rfl) 25 _ rfl (nb) (0) rfl (.agg ND) (λx k=>HLN.out x nb (row_kept RN2.out k))) hH ?_
   simp only [sA,sB,sC];refine tkE (i:=4) 20 rfl hH ?_
   apply Exists.intro;apply And.intro
   ·intro w9 _
    go_simp
    first | done | rfl
   simp only [sA,sB,sC];refine wpAnyH_ready (rs:=[3]) (by kernel_rfl) (by simp) ?_
   refine AllReadyH.cons rfl (λK hK=>?_) AllReadyH.nil
   rw [if_pos (by rfl)]
   go_simp
   go_wp2_with (go_at_call 13; refine(HRT.out _).mono ?_; rintro e x2 ⟨rfl,kx2⟩)
   have X2:Kept w2.heap.size w2.heap.size w2 x2:=X1.trans (kx2.mono X1.size (λi hi _=>Nat.ne_of_lt (Nat.lt_of_lt_of_le hi X1.size)))
   refine hK.out _ _ (X2) (λhH=>?_)
   clear hK K;refine tkE (i:=5) 21 rfl hH ?_
   apply Exists.intro;apply And.intro
   ·intro w9 _
    go_simp
    first | done | rfl
   simp only [sA,sB,sC];refine tkE (i:=6) 22 rfl hH ?_
   apply Exists.intro;apply And.intro
   ·intro w9 _
    go_simp
    first | done | rfl
   simp only [sA,sB,sC];refine tkE (i:=7) 23 rfl hH ?_
   apply Exists.intro;apply And.intro
   ·intro w9 _
    go_simp
    first | done | rfl
   simp only [sA,sB,sC];refine tkE (i:=8) 24 rfl hH ?_
   apply Exists.intro;apply And.intro
   ·intro w9 _
    go_simp
    first | done | rfl
   simp only [sA,sB,sC];refine tkE (i:=9) 25 rfl hH ?_
   apply Exists.intro;apply And.intro
   ·intro w9 _
    go_simp
    first | done | rfl
   simp only [sA,sB,sC];refine tkA (i:=10) 26 undef rfl (.inr ⟨by kernel_rfl,rfl⟩) hH ?_
   simp only [sA,sB,sC];refine tkA (i:=11) 27 undef rfl (.inr ⟨by kernel_rfl,rfl⟩) hH ?_
   simp only [sA,sB,sC];refine tkA (i:=12) 28 undef rfl (.inr ⟨by kernel_rfl,rfl⟩) hH ?_
   simp only [sA,sB,sC];refine tkA (i:=13) 29 undef rfl (.inr ⟨by kernel_rfl,rfl⟩) hH ?_
   simp only [sA,sB,sC];refine tkA (i:=14) 30 undef rfl (.inr ⟨by kernel_rfl,rfl⟩) hH ?_
   simp only [sA,sB,sC];refine tkE (i:=15) 31 rfl hH ?_
   apply Exists.intro;apply And.intro
   ·intro w9 _
    go_simp
    first | done | rfl
   simp only [sA,sB,sC];refine tkE (i:=16) 32 rfl hH ?_
   apply Exists.intro;apply And.intro
   ·intro w9 _
    go_simp
    first | done | rfl
   simp only [sA,sB,sC];refine tkE (i:=17) 33 rfl hH ?_
   apply Exists.intro;apply And.intro
   ·intro w9 _
    go_simp
    first | done | rfl
   simp only [sA,sB,sC];refine tkE (i:=18) 34 rfl hH ?_
   apply Exists.intro;apply And.intro
   ·intro w9 _
    go_simp
    first | done | rfl
   simp only [sA,sB,sC];refine tkE (i:=19) 35 rfl hH ?_
   apply Exists.intro;apply And.intro
   ·intro w9 _
    go_simp
    first | done | rfl
   simp only [sA,sB,sC];refine tkA (i:=20) 36 (.agg ND) rfl (yieldsIf_load_known (by kernel_rfl) 25 _ rfl (nb) (0) rfl (.agg ND) (λx k=>HLN.out x nb (row_kept RN2.out k))) hH ?_
   simp only [sA,sB,sC];refine wpAnyH_ready (rs:=[21]) (by kernel_rfl) (by simp) ?_
   refine AllReadyH.cons rfl (λK hK=>?_) AllReadyH.nil
   rw [if_pos (by rfl)]
   go_simp
   go_wp2_with (go_at_call 9; refine(HPK.out _ (K2.out.onto X2)).mono ?_; rintro e x3 ⟨rfl,kx3⟩)
   have X3:Kept w2.heap.size w2.heap.size w2 x3:=X2.trans (kx3.mono X2.size (λi hi _=>Nat.ne_of_lt (Nat.lt_of_lt_of_le hi X2.size)))
   refine hK.out _ _ (X3) (λhH=>?_)
   clear hK K;refine tkE (i:=22) 38 rfl hH ?_
   apply Exists.intro;apply And.intro
   ·intro w9 _
    go_simp
    first | done | rfl
   simp only [sA,sB,sC];refine tkE (i:=23) 39 rfl hH ?_
   apply Exists.intro;apply And.intro
   ·intro w9 _
    go_simp
    first | done | rfl
   simp only [sA,sB,sC];refine tkE (i:=24) 40 rfl hH ?_
   apply Exists.intro;apply And.intro
   ·intro w9 _
    go_simp
    first | done | rfl
   simp only [sA,sB,sC];refine tkE (i:=25) 41 rfl hH ?_
   apply Exists.intro;apply And.intro
   ·intro w9 _
    go_simp
    first | done | rfl
   simp only [sA,sB,sC];refine tkE (i:=26) 2 rfl hH ?_
   apply Exists.intro;apply And.intro
   ·intro w9 _
    go_simp
    first | done | rfl
   simp only [sA,sB,sC];refine wpAnyH_done (by kernel_rfl) ?_ _
   refine NoPanic.normal ?_;go_wp2;go_ret;exact⟨rfl,K2.out.onto X3⟩
end Go.Proofs.YtnlbgggnpoeleaaGreatDoor
