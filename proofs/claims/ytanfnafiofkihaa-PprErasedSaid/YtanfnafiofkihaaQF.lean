/-
 PprFactsC; PprFactsRef; PprNotesMem; PprErasedMem: several texts in one.
-/
import Derived.Test.YtanfnafiofkihaaPA
import Derived.Test.YtanfnafiofkihaaQC
import Derived.Test.YtanfnafiofkihaaGT
import Derived.Test.YtanfnafiofkihaaQA
import Derived.Test.YtanfnafiofkihaaQD
import Derived.Test.YtanfnafiofkihaaQE
import Derived.Test.YtanfnafiofkihaaPB
set_option maxRecDepth 100000
set_option maxHeartbeats 6400000
namespace Go.Proofs.Ytanfnafiofkihaa
open Go.RowKit Go.Lib
open List renaming setIfInBounds_toArray -> sA, set_cons_zero -> sB, set_cons_succ -> sC
open BigFrame renaming wpList_want -> wQ
structure FcW (w0 w:World) (wa:Nat) (RD:Array Value) (v:Value) (L:Facts):Prop where
 row:w.heap[wa]? = some (.cells RD 60 (0,0))
 own:OwnF w (wa + 1) v L
 kept:Kept w0.heap.size w0.heap.size w0 w
 size:wa + 1<=w.heap.size
 w0s:wa = w0.heap.size
variable {w0 w w':World} {wa:Nat} {RD:Array Value} {v v':Value} {L L':Facts}
theorem FcW.step (h:FcW w0 w wa RD v L)(k:Kept w.heap.size w.heap.size w w'):FcW w0 w' wa RD v L where
 row:=(k.block wa (lt_of_block h.row) (Nat.ne_of_lt (lt_of_block h.row))).trans h.row
 own:=h.own.kept k (Nat.le_refl _)
 kept:=h.kept.next1 k
 size:=Nat.le_trans h.size k.size
 w0s:=h.w0s
theorem FcW.lt (h:FcW w0 w wa RD v L):∀ k,v.ownBlock = some k->wa + 1<=k/\k < w.heap.size:=by
 obtain⟨ps,_,ho,_⟩:=h.own;exact ho.lt
theorem FcW.more (h:FcW w0 w wa RD v L)(ho:OwnF w' (wa + 1) v' L')(hg:w.grownBy w' v.ownBlock):FcW w0 w' wa RD v' L' where
 row:=(hg.block wa (lt_of_block h.row) (λe=>by have:=(h.lt wa e.symm).1; omega)).trans h.row
 own:=ho
 kept:=h.kept.trans ⟨hg.os,hg.tape,hg.output,hg.size,λk hk _=>hg.block k (Nat.lt_of_lt_of_le hk h.kept.size) (λe=>by have:=(h.lt k e.symm).1; have:=h.w0s; omega)⟩
 size:=Nat.le_trans h.size hg.size
 w0s:=h.w0s
theorem FcW.moreG {k:Nat}{cs:Array Value}{t:TypeId}{fr:Nat × Nat}(h:FcW w0 w wa RD v L)(hg:w.grownBy w' v.ownBlock)(hk:w.heap[k]? = some (.cells cs t fr))(ht:t≠35):w'.heap[k]? = some (.cells cs t fr):=by
 obtain⟨ps,hl,ho,hp⟩:=h.own;exact(StayG.grown ho hg).cells hk ht
theorem OwnF.apd {w:World}{base:Nat}{v x:Value}{L F:Facts}(hown:OwnF w base v L)(hbase:base<=w.heap.size)(hx:FRow w x F)(hl:L.length + F.length < 1000000):
  ∃ v' w',(Builtin.append_ #[31,31] 31 #[v,x]).run Try.prog w = .ok v' w'/\OwnF w' base v' (L ++ F)/\w.grownBy w' v.ownBlock:=by
 obtain⟨q,ps,rfl,h1,h2,h3⟩:=hx;exact append_facts w base v L hown hbase q F.length F.length ps F rfl h1 h3 (λj u hu=>by rw [cell_of_row w q j _ _ _ h2,List.getElem?_toArray]; exact hu) hl
theorem reffacts_calls (l:List UInt8)(hl:l.length = 32)(n:Nat)(hn:n<=31)(T:Value)(P:List Nat)(hP32:∀ t∈P,t < 4294967296)(hPn:P.length<=1000)(p:Nat)(hp:p < 4294967296)(w:World)(hT:Gones w T P):
  Calls Try.prog 27 #[.agg (refRow l n T),.int .i64 (p:Int)] w λe w'=>∃ v,e = .returned v/\OwnF w' w.heap.size v (Pp.upto n P p l (n + 1))/\Kept w.heap.size w.heap.size w w':=by
 have hcell:=hid (λ(w2:World) (b:Nat) h=>refRow_bits (w:=w2) (b:=b) (t:=60) hl (bits:=n) (T:=T) h)
 have hrs:=refRow_size hl n T;obtain⟨RD,hRD⟩:∃ RD,RD = refRow l n T:=⟨_,rfl⟩;have HRD:=hid hRD;rw [<- hRD] at hcell hrs |-;have HRI:=hid (show(Try.prog.info? 60).map (·.size) = some RD.size by rw [hrs]; kernel_rfl)
 have HL:=hid hl;have HN:=hid (show n<=32 by omega)
 have hn32:(n:Int)<=31:=by omega
 have hp4:(p:Int) < 4294967296:=by omega
 have HP4:=hid hp;have HP32:=hid hP32;have HPN:=hid hPn;have HT:=hid hT;obtain⟨i0,z0,hi0,hz0,hzs0,hs0,hb0⟩:=book_info;obtain⟨iF,zF,hiF,hzF,hzsF,hsF⟩:=fact_info;have HI0:=hid hi0;have HZ0:=hid hz0;have HS0:=hid hs0;have HIF:=hid hiF;have HZF:=hid hzF;have HSF:=hid hsF;have hF1:FcW w (w.alloc (.cells RD 60)) w.heap.size RD (.slice none 0 0) (Pp.upto n P p l 0):=⟨heap_new _ _,OwnF.nil _ _,(Kept.refl _ _ _).alloc (Nat.le_refl _) _,by simp,rfl⟩
 have HF1:=hid hF1;clear hl hn hrs hRD hP32 hPn hp hT hi0 hz0 hzs0 hs0 hb0 hiF hzF hzsF hsF hF1
 go_enter Try.func27,Try.ntmps27
 go_upto_region 1 with fail
 generalize w.alloc (.cells RD 60) = w1 at HF1 |-
 obtain⟨wa,hwa⟩:∃ wa,wa = w.heap.size:=⟨_,rfl⟩;rw [<- hwa] at HF1 |-;have HWA:=hid hwa;clear hwa
 go_wp2_with fail
 go_loopw [5,6] (λs5 s6 wr=>∃ lev:Nat,s6 = .int .i64 (lev:Int)/\Hid (lev<=n + 1)/\Hid (FcW w wr wa RD s5 (Pp.upto n P p l lev))) (λ_ s6 _=>n + 2 - (RowKit.intOf s6).toNat)
 case atStart=>exact⟨0,rfl,hid (Nat.zero_le _),HF1⟩
 case round=>
  clear HF1;obtain⟨lev,rfl,HLV,HF⟩:=hrel;have c32:=hcell.out _ _ HF.out.row
  by_cases hend:lev = n + 1
  ·have hgt:¬ (lev:Int)<=(n:Int):=by omega
   have HE:=hid hend;clear hend;go_wp2;go_ret;exact⟨_,rfl,by have:=HF.out.own; rw [HE.out] at this; exact this.low (by have:=HWA.out; omega),HF.out.kept⟩
  ·have hlev1:lev<=n:=by have:=HLV.out; omega
   have HLV':=HLV;clear HLV hend;have HLV:=hid hlev1;clear HLV';have hlev:=HLV.out;have hn':=HN.out;have hle:(lev:Int)<=(n:Int):=by omega
   have hll:0<=(lev:Int):=by omega
   have hsub:(n:Int) - (lev:Int) = ((n - lev:Nat):Int):=by omega
   obtain⟨k,hk⟩:∃ k,k = n - lev:=⟨_,rfl⟩;obtain⟨N2,hN2⟩:∃ N2:Int,N2 = ((2 ^ k:Nat):Int):=⟨_,rfl⟩;have hpow:=λw=>power_calls k (by omega) w
   rw [<- hN2] at hpow;have HP:=hid hpow;have hN20:¬ N2 = 0:=by rw [hN2]; have:=Nat.two_pow_pos k; generalize 2 ^ k = q at this |-; omega
   have hN21:0<=N2:=by rw [hN2]; exact Int.natCast_nonneg _
   obtain⟨pp,hpp⟩:∃ pp,pp = p / 2 ^ k:=⟨_,rfl⟩;have hpple:pp<=p:=by rw [hpp]; exact Nat.div_le_self _ _
   have HQ:=hid (show IntKind.i64.wrap ((p:Int) / N2) = (pp:Int) by
    rw [hN2,hpp,show(p:Int) / ((2 ^ k:Nat):Int) = ((p / 2 ^ k:Nat):Int) from rfl,IntKind.wrap_i64];have:=Nat.div_le_self p (2 ^ k);generalize p / 2 ^ k = q at this |-
    omega)
   have hwh:=λu hu=>whole_calls l HL.out lev k (by omega) T P HP32.out HPN.out pp u hu
   have hat:=λu=>at_calls l HL.out n T lev (by omega) pp (by omega) u
   rw [show lev + k = n by omega] at hwh
   have hdec:(∀ t∈P,t / 2 ^ k≠pp)↔Pp.Whole n P (Pp.wayS n p l lev):=by rw [hpp,hk]; exact Pp.whole_div n P p l lev
   have hway:Pp.wayS n p l lev = ⟨lev,pp,Pp.path pp lev l⟩:=by unfold Pp.wayS; rw [hpp,hk]
   have hUP:Pp.upto n P p l lev ++ Pp.lev1 n P p l lev = Pp.upto n P p l (lev + 1):=rfl;have HLEN:=hid (show(Pp.upto n P p l lev).length < 1000 by have:=Pp.upto_length n P p l lev; omega)
   rw [<- HRD.out] at hwh hat;rw [<- hk] at hsub;have HWR:=hid (show IntKind.i64.wrap ((n - lev:Nat):Int) = (k:Int) by rw [IntKind.wrap_i64]; omega)
   have HNK:=hid (show((n - lev:Nat):Int) = (k:Int) by omega)
   by_cases hln:lev = n
   ·as_aux_lemma=>
     obtain⟨s,hs⟩:∃ t,t = Pp.path pp lev l:=⟨_,rfl⟩;have hs32:s.length = 32:=by rw [hs]; exact Pp.path_length _ _ _ HL.out
     obtain⟨SD,hSD⟩:∃ t,t = (bcells s).toArray:=⟨_,rfl⟩;rw [<- hs] at hat hway;rw [<- hSD] at hat;have HSS:=hid (show SD.size = 32 by rw [hSD,List.size_toArray,bcells_length]; exact hs32)
     have HSA:=hid (show SD.all (·.oneCell') = true by rw [hSD]; exact bcells_all _)
     have HSI:=hid (h32Info HSS.out);have HOS:=hid (λ(u:World) (q:Nat) (h:u.heap[q]? = some (.cells SD 25 (0,0)))=>own_one5 hs32 (by rw [<- hSD]; exact h))
     have HAT:=hid hat;clear hat;have hky:=λu=>refkey_calls l HL.out n HN.out T p (by have:=HP4.out; omega) u
     have hpn:pp = p:=by rw [hpp,show k = 0 by omega,Nat.pow_zero,Nat.div_one]
     have hsn:s = Pp.path p n l:=by rw [hs,hpn,hln]
     rw [<- HRD.out,<- hsn] at hky;obtain⟨kk,hkk⟩:∃ t,t = Pp.key s:=⟨_,rfl⟩;have hkk32:kk.length = 32:=by rw [hkk]; exact sum_length _
     obtain⟨KD,hKD⟩:∃ t,t = (bcells kk).toArray:=⟨_,rfl⟩;rw [<- hkk,<- hKD] at hky;have HKS:=hid (show KD.size = 32 by rw [hKD,List.size_toArray,bcells_length]; exact hkk32)
     have HOK:=hid (λ(u:World) (q:Nat) (h:u.heap[q]? = some (.cells KD 25 (0,0)))=>own_one5 hkk32 (by rw [<- hKD]; exact h))
     have HKEY:=hid hky
     have HUPN:=hid (show Pp.upto n P p l lev ++ [([s],[kk])] = Pp.upto n P p l (lev + 1) by
      rw [<- hUP]
      congr 1
      unfold Pp.lev1 Pp.lfact
      rw [if_pos (.inl hln),if_pos hln,hway,hkk])
     have hnlt:¬ (lev:Int) < (n:Int):=by omega
     have hbe:((lev:Int) == (n:Int)) = true:=by rw [beq_iff_eq]; omega
     have HLN:=hid hln;clear hln;clear hky hpn hsn hkk hkk32 hKD hs hs32 hSD hUP hway hdec hwh hpow hN2 hpp
     go_upto_region 5 with fail
     refine wp_region_lit ?_;iterate 5 (refine wW λK hK=>?_;go_simp;apply hK;clear hK K)
     refine wW λK hK=>?_;go_simp;go_at_call 54
     (first | rw [HWR.out] | rw [HNK.out])
     refine(HP.out _).mono ?_;rintro e w2 ⟨rfl,hw2⟩;subst w2;apply hK;clear hK K;refine wW λK hK=>?_;go_simp;rw [HQ.out];apply hK;clear hK K;refine wW λK hK=>?_;go_simp;apply hK;clear hK K
     go_upto_region 7 with fail
     refine wp_region_lit ?_;refine wLk 60 (.tmp 2) rfl (wa) (0) rfl (.agg RD) (run_loadVar_row wr wa 60 60 RD (0,0) _ HF.out.row Try.underlying60 rfl HRI.out) ?_
     simp only [Act.put,sA,sB,sC];iterate 2 (refine wW λK hK=>?_;go_simp;apply hK;clear hK K)
     refine wW λK hK=>?_;go_simp;go_at_call 56
     refine(HAT.out wr).mono ?_;rintro e w6 ⟨rfl,kz⟩;apply hK;clear hK K
     replace HF:=hid (HF.out.step kz)
     clear kz c32;refine wpList_alloc_k rfl 25 rfl (alloc_hash32 _) ?_
     simp only [Act.put,sA,sB,sC];refine wpList_store_row rfl 25 _ _ rfl (w6.heap.size) SD rfl rfl 25 zeros32 (heap_new _ _) (HSI.out) (by rw [zeros32_size,HSS.out]) (HSA.out) ?_
     simp only [Act.put];rw [World.setRow_alloc_new];have F7:=hid (HF.out.step (w':=w6.alloc (.cells SD 25)) ((Kept.refl _ _ _).alloc (Nat.le_refl _) _))
     have B7:=hid (heap_new w6 (.cells SD 25))
     obtain⟨sb,hsb⟩:∃ sb,sb = w6.heap.size:=⟨_,rfl⟩;rw [<- hsb] at B7 |-;clear hsb HF;generalize w6.alloc (.cells SD 25) = w7 at F7 B7 |-
     have c32:=hcell.out _ _ F7.out.row;have kd0:Kept w7.heap.size w7.heap.size w7 w7.drew:=(Kept.refl _ _ _).drew;have FD:=hid (F7.out.step kd0);have BD:=hid (rk B7.out kd0);clear kd0 F7 B7
     go_upto_region 9 with fail
     refine wp_region_noPanic ?_;refine wp_region_held_drew (S:=λu=>u.heap[wa]? = some (.cells RD 60 (0,0))/\u.heap[sb]? = some (.cells SD 25 (0,0))) (by kernel_rfl) (⟨FD.out.row,BD.out⟩) (λhH=>?_)
     generalize w7.drew = wd at FD BD hH |-;refine tkE (i:=0) 41 rfl hH ?_
     apply Exists.intro;apply And.intro
     ·intro w9 _
      go_simp
      first | done | rfl
     simp only [sA,sB,sC];refine tkA (i:=1) 42 (.agg SD) rfl (yieldsIf_load_known (by kernel_rfl) 25 _ rfl (sb) (0) rfl (.agg SD) (λw9 h9=>run_loadVar_row w9 sb 25 25 SD (0,0) _ h9.2 Try.underlying25 rfl HSI.out)) hH ?_
     simp only [sA,sB,sC];refine tkA (i:=3) 44 (.agg RD) rfl (yieldsIf_load_known (by kernel_rfl) 60 _ rfl (wa) (0) rfl (.agg RD) (λw9 h9=>run_loadVar_row w9 wa 60 60 RD (0,0) _ h9.1 Try.underlying60 rfl HRI.out)) hH ?_
     simp only [sA,sB,sC];refine tkE (i:=4) 45 rfl hH ?_
     apply Exists.intro;apply And.intro
     ·intro w9 _
      go_simp
      first | done | rfl
     simp only [sA,sB,sC];refine wpAnyH_ready (rs:=[2,5]) (by kernel_rfl) (by simp) ?_
     refine AllReadyH.cons rfl (λK hK=>?_) ?_
     ·rw [if_pos (by rfl)]
      refine wp_build_one _ 33 25 rfl i0 z0 Try.underlying33 HI0.out HZ0.out SD rfl (by rw [HS0.out]; exact HSS.out) (by rw [HS0.out]; decide) (by rw [HS0.out]; decide) ?_
      simp only [Act.put,sA,sB,sC,List.getElem_toArray,List.getElem_cons_succ,List.getElem_cons_zero];have kz:Kept wd.heap.size wd.heap.size wd (wd.alloc (.cells SD 25)):=(Kept.refl _ _ _).alloc (Nat.le_refl _) _
      have Fx1:=hid ((FD.out.step kz));have Bx2:=hid (((kz).block _ (lt_of_block BD.out) (Nat.ne_of_lt (lt_of_block BD.out))).trans BD.out);have Y43:=hid (HOS.out _ _ (heap_new wd (.cells SD 25)))
      refine hK.out _ _ ⟨Fx1.out.row,Bx2.out⟩ (λhH=>?_)
      clear hK K FD BD kz;obtain⟨q43,hq43⟩:∃ q,q = wd.heap.size:=⟨_,rfl⟩;rw [<- hq43] at Y43 |-;clear hq43;generalize wd.alloc (.cells SD 25) = v1w at Fx1 Bx2 Y43 hH |-
      refine wpAnyH_ready (rs:=[5]) (by kernel_rfl) (by simp) ?_
      refine AllReadyH.cons rfl (λK hK=>?_) AllReadyH.nil
      rw [if_pos (by rfl)]
      go_simp
      go_wp2_with (go_at_call 57; refine(HKEY.out v1w).mono ?_; rintro e v2w ⟨rfl,kz⟩)
      have Fx3:=hid ((Fx1.out.step kz));have Bx4:=hid (((kz).block _ (lt_of_block Bx2.out) (Nat.ne_of_lt (lt_of_block Bx2.out))).trans Bx2.out);have Y43x5:=hid (Y43.out.kept kz (Nat.le_refl _));refine hK.out _ _ ⟨Fx3.out.row,Bx4.out⟩ (λhH=>?_)
      clear hK K Fx1 Bx2 Y43 kz;refine wpAnyH_ready (rs:=[6]) (by kernel_rfl) (by simp) ?_
      refine AllReadyH.cons rfl (λK hK=>?_) AllReadyH.nil
      rw [if_pos (by rfl)]
      refine wp_build_one _ 33 25 rfl i0 z0 Try.underlying33 HI0.out HZ0.out KD rfl (by rw [HS0.out]; exact HKS.out) (by rw [HS0.out]; decide) (by rw [HS0.out]; decide) ?_
      simp only [Act.put,sA,sB,sC,List.getElem_toArray,List.getElem_cons_succ,List.getElem_cons_zero];have kz:Kept v2w.heap.size v2w.heap.size v2w (v2w.alloc (.cells KD 25)):=(Kept.refl _ _ _).alloc (Nat.le_refl _) _
      have Fx6:=hid ((Fx3.out.step kz));have Bx7:=hid (((kz).block _ (lt_of_block Bx4.out) (Nat.ne_of_lt (lt_of_block Bx4.out))).trans Bx4.out);have Y43x8:=hid (Y43x5.out.kept kz (Nat.le_refl _));have Y47:=hid (HOK.out _ _ (heap_new v2w (.cells KD 25)))
      refine hK.out _ _ ⟨Fx6.out.row,Bx7.out⟩ (λhH=>?_)
      clear hK K Fx3 Bx4 Y43x5 kz;obtain⟨q47,hq47⟩:∃ q,q = v2w.heap.size:=⟨_,rfl⟩;rw [<- hq47] at Y47 |-;clear hq47;generalize v2w.alloc (.cells KD 25) = v3w at Fx6 Bx7 Y43x8 Y47 hH |-
      refine wpAnyH_ready (rs:=[7]) (by kernel_rfl) (by simp) ?_
      refine AllReadyH.cons rfl (λK hK=>?_) AllReadyH.nil
      rw [if_pos (by rfl)]
      refine wp_buildN 35 _ rfl #[(0,.slice (some ⟨q43,0,none⟩) 1 1),(1,.slice (some ⟨q47,0,none⟩) 1 1)] (by simp only [List.map_toArray,List.map_cons,List.map_nil]; rfl) (build_made5 _ _ _ _ _ _ _) ?_
      simp only [Act.put,sA,sB,sC,List.getElem_toArray,List.getElem_cons_succ,List.getElem_cons_zero];refine hK.out _ _ ⟨Fx6.out.row,Bx7.out⟩ (λhH=>?_)
      clear hK K;refine wpAnyH_ready (rs:=[8]) (by kernel_rfl) (by simp) ?_
      refine AllReadyH.cons rfl (λK hK=>?_) AllReadyH.nil
      rw [if_pos (by rfl)]
      refine wp_build_one _ 31 35 rfl iF zF Try.underlying31 HIF.out HZF.out #[.slice (some ⟨q43,0,none⟩) 1 1,.slice (some ⟨q47,0,none⟩) 1 1] rfl (by rw [HSF.out]; rfl) (by rw [HSF.out]; decide) (by rw [HSF.out]; decide) ?_
      simp only [Act.put,sA,sB,sC,List.getElem_toArray,List.getElem_cons_succ,List.getElem_cons_zero];have kz:Kept v3w.heap.size v3w.heap.size v3w (v3w.alloc (.cells #[.slice (some ⟨q43,0,none⟩) 1 1,.slice (some ⟨q47,0,none⟩) 1 1] 35)):=(Kept.refl _ _ _).alloc (Nat.le_refl _) _
      have Y49:Hid (FRow (v3w.alloc (.cells #[.slice (some ⟨q43,0,none⟩) 1 1,.slice (some ⟨q47,0,none⟩) 1 1] 35)) (.slice (some ⟨v3w.heap.size,0,none⟩) 1 1) [([s],[kk])]):=hid (frow_one (f:=([s],[kk])) (Y43x8.out.kept kz (Nat.le_refl _)) (Y47.out.kept kz (Nat.le_refl _)) (heap_new _ _))
      have Fx9:=hid ((Fx6.out.step kz));have Bx10:=hid (((kz).block _ (lt_of_block Bx7.out) (Nat.ne_of_lt (lt_of_block Bx7.out))).trans Bx7.out);refine hK.out _ _ ⟨Fx9.out.row,Bx10.out⟩ (λhH=>?_)
      clear hK K Fx6 Bx7 kz Y43x8 Y47;obtain⟨q49,hq49⟩:∃ q,q = v3w.heap.size:=⟨_,rfl⟩;rw [<- hq49] at Y49 |-;clear hq49;generalize v3w.alloc (.cells #[.slice (some ⟨q43,0,none⟩) 1 1,.slice (some ⟨q47,0,none⟩) 1 1] 35) = v4w at Fx9 Bx10 Y49 hH |-
      refine wpAnyH_ready (rs:=[9]) (by kernel_rfl) (by simp) ?_
      refine AllReadyH.cons rfl (λK hK=>?_) AllReadyH.nil
      rw [if_pos (by rfl)]
      obtain⟨v9,u9,hr9,ho9,hg9⟩:=Fx9.out.own.apd Fx9.out.size Y49.out (by have:=HLEN.out; simp only [List.length_cons,List.length_nil]; omega)
      refine wp_append_known (.tmp 41) (.tmp 49) 31 31 31 rfl rfl u5 (.slice (some ⟨q49,0,none⟩) 1 1) rfl rfl hr9 ?_
      simp only [Act.put,sA,sB,sC,List.getElem_toArray,List.getElem_cons_succ,List.getElem_cons_zero];have F9:=hid (Fx9.out.more ho9 hg9);have B9:=hid (Fx9.out.moreG hg9 Bx10.out (by decide))
      refine hK.out _ _ ⟨F9.out.row,B9.out⟩ (λhH=>?_)
      clear hK K hr9 ho9 hg9 Fx9 Bx10 Y49;refine wpAnyH_ready (rs:=[10]) (by kernel_rfl) (by simp) ?_
      refine AllReadyH.cons rfl (λK hK=>?_) AllReadyH.nil
      rw [if_pos (by rfl)]
      go_simp;refine hK.out _ _ ⟨F9.out.row,B9.out⟩ (λhH=>?_)
      clear hK K;refine wpAnyH_done (by kernel_rfl) ?_ _
      refine NoPanic.normal ?_;have F9':=hid F9.out;clear hH B9 F9;go_wp2
      go_roundw
      case rel=>exact⟨lev + 1,by simp,hid (by have:=HLV.out; omega),hid (by have:=F9'.out; rwa [HUPN.out] at this)⟩
      case measure=>simp [RowKit.intOf]; omega
     refine AllReadyH.cons rfl (λK hK=>?_) AllReadyH.nil
     rw [if_pos (by rfl)]
     go_simp
     go_wp2_with (go_at_call 57; refine(HKEY.out wd).mono ?_; rintro e v5w ⟨rfl,kz⟩)
     have Fx11:=hid ((FD.out.step kz));have Bx12:=hid (((kz).block _ (lt_of_block BD.out) (Nat.ne_of_lt (lt_of_block BD.out))).trans BD.out);refine hK.out _ _ ⟨Fx11.out.row,Bx12.out⟩ (λhH=>?_)
     clear hK K FD BD kz;refine wpAnyH_ready (rs:=[2,6]) (by kernel_rfl) (by simp) ?_
     refine AllReadyH.cons rfl (λK hK=>?_) ?_
     ·rw [if_pos (by rfl)]
      refine wp_build_one _ 33 25 rfl i0 z0 Try.underlying33 HI0.out HZ0.out SD rfl (by rw [HS0.out]; exact HSS.out) (by rw [HS0.out]; decide) (by rw [HS0.out]; decide) ?_
      simp only [Act.put,sA,sB,sC,List.getElem_toArray,List.getElem_cons_succ,List.getElem_cons_zero];have kz:Kept v5w.heap.size v5w.heap.size v5w (v5w.alloc (.cells SD 25)):=(Kept.refl _ _ _).alloc (Nat.le_refl _) _
      have Fx13:=hid ((Fx11.out.step kz));have Bx14:=hid (((kz).block _ (lt_of_block Bx12.out) (Nat.ne_of_lt (lt_of_block Bx12.out))).trans Bx12.out);have Y43:=hid (HOS.out _ _ (heap_new v5w (.cells SD 25)))
      refine hK.out _ _ ⟨Fx13.out.row,Bx14.out⟩ (λhH=>?_)
      clear hK K Fx11 Bx12 kz;obtain⟨q43,hq43⟩:∃ q,q = v5w.heap.size:=⟨_,rfl⟩;rw [<- hq43] at Y43 |-;clear hq43;generalize v5w.alloc (.cells SD 25) = v6w at Fx13 Bx14 Y43 hH |-
      refine wpAnyH_ready (rs:=[6]) (by kernel_rfl) (by simp) ?_
      refine AllReadyH.cons rfl (λK hK=>?_) AllReadyH.nil
      rw [if_pos (by rfl)]
      refine wp_build_one _ 33 25 rfl i0 z0 Try.underlying33 HI0.out HZ0.out KD rfl (by rw [HS0.out]; exact HKS.out) (by rw [HS0.out]; decide) (by rw [HS0.out]; decide) ?_
      simp only [Act.put,sA,sB,sC,List.getElem_toArray,List.getElem_cons_succ,List.getElem_cons_zero];have kz:Kept v6w.heap.size v6w.heap.size v6w (v6w.alloc (.cells KD 25)):=(Kept.refl _ _ _).alloc (Nat.le_refl _) _
      have Fx15:=hid ((Fx13.out.step kz));have Bx16:=hid (((kz).block _ (lt_of_block Bx14.out) (Nat.ne_of_lt (lt_of_block Bx14.out))).trans Bx14.out);have Y43x17:=hid (Y43.out.kept kz (Nat.le_refl _));have Y47:=hid (HOK.out _ _ (heap_new v6w (.cells KD 25)))
      refine hK.out _ _ ⟨Fx15.out.row,Bx16.out⟩ (λhH=>?_)
      clear hK K Fx13 Bx14 Y43 kz;obtain⟨q47,hq47⟩:∃ q,q = v6w.heap.size:=⟨_,rfl⟩;rw [<- hq47] at Y47 |-;clear hq47;generalize v6w.alloc (.cells KD 25) = v7w at Fx15 Bx16 Y43x17 Y47 hH |-
      refine wpAnyH_ready (rs:=[7]) (by kernel_rfl) (by simp) ?_
      refine AllReadyH.cons rfl (λK hK=>?_) AllReadyH.nil
      rw [if_pos (by rfl)]
      refine wp_buildN 35 _ rfl #[(0,.slice (some ⟨q43,0,none⟩) 1 1),(1,.slice (some ⟨q47,0,none⟩) 1 1)] (by simp only [List.map_toArray,List.map_cons,List.map_nil]; rfl) (build_made5 _ _ _ _ _ _ _) ?_
      simp only [Act.put,sA,sB,sC,List.getElem_toArray,List.getElem_cons_succ,List.getElem_cons_zero];refine hK.out _ _ ⟨Fx15.out.row,Bx16.out⟩ (λhH=>?_)
      clear hK K;refine wpAnyH_ready (rs:=[8]) (by kernel_rfl) (by simp) ?_
      refine AllReadyH.cons rfl (λK hK=>?_) AllReadyH.nil
      rw [if_pos (by rfl)]
      refine wp_build_one _ 31 35 rfl iF zF Try.underlying31 HIF.out HZF.out #[.slice (some ⟨q43,0,none⟩) 1 1,.slice (some ⟨q47,0,none⟩) 1 1] rfl (by rw [HSF.out]; rfl) (by rw [HSF.out]; decide) (by rw [HSF.out]; decide) ?_
      simp only [Act.put,sA,sB,sC,List.getElem_toArray,List.getElem_cons_succ,List.getElem_cons_zero];have kz:Kept v7w.heap.size v7w.heap.size v7w (v7w.alloc (.cells #[.slice (some ⟨q43,0,none⟩) 1 1,.slice (some ⟨q47,0,none⟩) 1 1] 35)):=(Kept.refl _ _ _).alloc (Nat.le_refl _) _
      have Y49:Hid (FRow (v7w.alloc (.cells #[.slice (some ⟨q43,0,none⟩) 1 1,.slice (some ⟨q47,0,none⟩) 1 1] 35)) (.slice (some ⟨v7w.heap.size,0,none⟩) 1 1) [([s],[kk])]):=hid (frow_one (f:=([s],[kk])) (Y43x17.out.kept kz (Nat.le_refl _)) (Y47.out.kept kz (Nat.le_refl _)) (heap_new _ _))
      have Fx18:=hid ((Fx15.out.step kz));have Bx19:=hid (((kz).block _ (lt_of_block Bx16.out) (Nat.ne_of_lt (lt_of_block Bx16.out))).trans Bx16.out);refine hK.out _ _ ⟨Fx18.out.row,Bx19.out⟩ (λhH=>?_)
      clear hK K Fx15 Bx16 kz Y43x17 Y47;obtain⟨q49,hq49⟩:∃ q,q = v7w.heap.size:=⟨_,rfl⟩;rw [<- hq49] at Y49 |-;clear hq49;generalize v7w.alloc (.cells #[.slice (some ⟨q43,0,none⟩) 1 1,.slice (some ⟨q47,0,none⟩) 1 1] 35) = v8w at Fx18 Bx19 Y49 hH |-
      refine wpAnyH_ready (rs:=[9]) (by kernel_rfl) (by simp) ?_
      refine AllReadyH.cons rfl (λK hK=>?_) AllReadyH.nil
      rw [if_pos (by rfl)]
      obtain⟨v9,u9,hr9,ho9,hg9⟩:=Fx18.out.own.apd Fx18.out.size Y49.out (by have:=HLEN.out; simp only [List.length_cons,List.length_nil]; omega)
      refine wp_append_known (.tmp 41) (.tmp 49) 31 31 31 rfl rfl u5 (.slice (some ⟨q49,0,none⟩) 1 1) rfl rfl hr9 ?_
      simp only [Act.put,sA,sB,sC,List.getElem_toArray,List.getElem_cons_succ,List.getElem_cons_zero];have F9:=hid (Fx18.out.more ho9 hg9);have B9:=hid (Fx18.out.moreG hg9 Bx19.out (by decide))
      refine hK.out _ _ ⟨F9.out.row,B9.out⟩ (λhH=>?_)
      clear hK K hr9 ho9 hg9 Fx18 Bx19 Y49;refine wpAnyH_ready (rs:=[10]) (by kernel_rfl) (by simp) ?_
      refine AllReadyH.cons rfl (λK hK=>?_) AllReadyH.nil
      rw [if_pos (by rfl)]
      go_simp;refine hK.out _ _ ⟨F9.out.row,B9.out⟩ (λhH=>?_)
      clear hK K;refine wpAnyH_done (by kernel_rfl) ?_ _
      refine NoPanic.normal ?_;have F9':=hid F9.out;clear hH B9 F9;go_wp2
      go_roundw
      case rel=>exact⟨lev + 1,by simp,hid (by have:=HLV.out; omega),hid (by have:=F9'.out; rwa [HUPN.out] at this)⟩
      case measure=>simp [RowKit.intOf]; omega
     refine AllReadyH.cons rfl (λK hK=>?_) AllReadyH.nil
     rw [if_pos (by rfl)]
     refine wp_build_one _ 33 25 rfl i0 z0 Try.underlying33 HI0.out HZ0.out KD rfl (by rw [HS0.out]; exact HKS.out) (by rw [HS0.out]; decide) (by rw [HS0.out]; decide) ?_
     simp only [Act.put,sA,sB,sC,List.getElem_toArray,List.getElem_cons_succ,List.getElem_cons_zero];have kz:Kept v5w.heap.size v5w.heap.size v5w (v5w.alloc (.cells KD 25)):=(Kept.refl _ _ _).alloc (Nat.le_refl _) _
     have Fx20:=hid ((Fx11.out.step kz));have Bx21:=hid (((kz).block _ (lt_of_block Bx12.out) (Nat.ne_of_lt (lt_of_block Bx12.out))).trans Bx12.out);have Y47:=hid (HOK.out _ _ (heap_new v5w (.cells KD 25)))
     refine hK.out _ _ ⟨Fx20.out.row,Bx21.out⟩ (λhH=>?_)
     clear hK K Fx11 Bx12 kz;obtain⟨q47,hq47⟩:∃ q,q = v5w.heap.size:=⟨_,rfl⟩;rw [<- hq47] at Y47 |-;clear hq47;generalize v5w.alloc (.cells KD 25) = v9w at Fx20 Bx21 Y47 hH |-
     refine wpAnyH_ready (rs:=[2]) (by kernel_rfl) (by simp) ?_
     refine AllReadyH.cons rfl (λK hK=>?_) AllReadyH.nil
     rw [if_pos (by rfl)]
     refine wp_build_one _ 33 25 rfl i0 z0 Try.underlying33 HI0.out HZ0.out SD rfl (by rw [HS0.out]; exact HSS.out) (by rw [HS0.out]; decide) (by rw [HS0.out]; decide) ?_
     simp only [Act.put,sA,sB,sC,List.getElem_toArray,List.getElem_cons_succ,List.getElem_cons_zero];have kz:Kept v9w.heap.size v9w.heap.size v9w (v9w.alloc (.cells SD 25)):=(Kept.refl _ _ _).alloc (Nat.le_refl _) _
     have Fx22:=hid ((Fx20.out.step kz));have Bx23:=hid (((kz).block _ (lt_of_block Bx21.out) (Nat.ne_of_lt (lt_of_block Bx21.out))).trans Bx21.out);have Y47x24:=hid (Y47.out.kept kz (Nat.le_refl _));have Y43:=hid (HOS.out _ _ (heap_new v9w (.cells SD 25)))
     refine hK.out _ _ ⟨Fx22.out.row,Bx23.out⟩ (λhH=>?_)
     clear hK K Fx20 Bx21 Y47 kz;obtain⟨q43,hq43⟩:∃ q,q = v9w.heap.size:=⟨_,rfl⟩;rw [<- hq43] at Y43 |-;clear hq43;generalize v9w.alloc (.cells SD 25) = v10w at Fx22 Bx23 Y47x24 Y43 hH |-
     refine wpAnyH_ready (rs:=[7]) (by kernel_rfl) (by simp) ?_
     refine AllReadyH.cons rfl (λK hK=>?_) AllReadyH.nil
     rw [if_pos (by rfl)]
     refine wp_buildN 35 _ rfl #[(0,.slice (some ⟨q43,0,none⟩) 1 1),(1,.slice (some ⟨q47,0,none⟩) 1 1)] (by simp only [List.map_toArray,List.map_cons,List.map_nil]; rfl) (build_made5 _ _ _ _ _ _ _) ?_
     simp only [Act.put,sA,sB,sC,List.getElem_toArray,List.getElem_cons_succ,List.getElem_cons_zero];refine hK.out _ _ ⟨Fx22.out.row,Bx23.out⟩ (λhH=>?_)
     clear hK K;refine wpAnyH_ready (rs:=[8]) (by kernel_rfl) (by simp) ?_
     refine AllReadyH.cons rfl (λK hK=>?_) AllReadyH.nil
     rw [if_pos (by rfl)]
     refine wp_build_one _ 31 35 rfl iF zF Try.underlying31 HIF.out HZF.out #[.slice (some ⟨q43,0,none⟩) 1 1,.slice (some ⟨q47,0,none⟩) 1 1] rfl (by rw [HSF.out]; rfl) (by rw [HSF.out]; decide) (by rw [HSF.out]; decide) ?_
     simp only [Act.put,sA,sB,sC,List.getElem_toArray,List.getElem_cons_succ,List.getElem_cons_zero];have kz:Kept v10w.heap.size v10w.heap.size v10w (v10w.alloc (.cells #[.slice (some ⟨q43,0,none⟩) 1 1,.slice (some ⟨q47,0,none⟩) 1 1] 35)):=(Kept.refl _ _ _).alloc (Nat.le_refl _) _
     have Y49:Hid (FRow (v10w.alloc (.cells #[.slice (some ⟨q43,0,none⟩) 1 1,.slice (some ⟨q47,0,none⟩) 1 1] 35)) (.slice (some ⟨v10w.heap.size,0,none⟩) 1 1) [([s],[kk])]):=hid (frow_one (f:=([s],[kk])) (Y43.out.kept kz (Nat.le_refl _)) (Y47x24.out.kept kz (Nat.le_refl _)) (heap_new _ _))
     have Fx25:=hid ((Fx22.out.step kz));have Bx26:=hid (((kz).block _ (lt_of_block Bx23.out) (Nat.ne_of_lt (lt_of_block Bx23.out))).trans Bx23.out);refine hK.out _ _ ⟨Fx25.out.row,Bx26.out⟩ (λhH=>?_)
     clear hK K Fx22 Bx23 kz Y43 Y47x24;obtain⟨q49,hq49⟩:∃ q,q = v10w.heap.size:=⟨_,rfl⟩;rw [<- hq49] at Y49 |-;clear hq49;generalize v10w.alloc (.cells #[.slice (some ⟨q43,0,none⟩) 1 1,.slice (some ⟨q47,0,none⟩) 1 1] 35) = v11w at Fx25 Bx26 Y49 hH |-
     refine wpAnyH_ready (rs:=[9]) (by kernel_rfl) (by simp) ?_
     refine AllReadyH.cons rfl (λK hK=>?_) AllReadyH.nil
     rw [if_pos (by rfl)]
     obtain⟨v9,u9,hr9,ho9,hg9⟩:=Fx25.out.own.apd Fx25.out.size Y49.out (by have:=HLEN.out; simp only [List.length_cons,List.length_nil]; omega)
     refine wp_append_known (.tmp 41) (.tmp 49) 31 31 31 rfl rfl u5 (.slice (some ⟨q49,0,none⟩) 1 1) rfl rfl hr9 ?_
     simp only [Act.put,sA,sB,sC,List.getElem_toArray,List.getElem_cons_succ,List.getElem_cons_zero];have F9:=hid (Fx25.out.more ho9 hg9);have B9:=hid (Fx25.out.moreG hg9 Bx26.out (by decide))
     refine hK.out _ _ ⟨F9.out.row,B9.out⟩ (λhH=>?_)
     clear hK K hr9 ho9 hg9 Fx25 Bx26 Y49;refine wpAnyH_ready (rs:=[10]) (by kernel_rfl) (by simp) ?_
     refine AllReadyH.cons rfl (λK hK=>?_) AllReadyH.nil
     rw [if_pos (by rfl)]
     go_simp;refine hK.out _ _ ⟨F9.out.row,B9.out⟩ (λhH=>?_)
     clear hK K;refine wpAnyH_done (by kernel_rfl) ?_ _
     refine NoPanic.normal ?_;have F9':=hid F9.out;clear hH B9 F9;go_wp2
     go_roundw
     case rel=>exact⟨lev + 1,by simp,hid (by have:=HLV.out; omega),hid (by have:=F9'.out; rwa [HUPN.out] at this)⟩
     case measure=>simp [RowKit.intOf]; omega
   ·by_cases hw:Pp.Whole n P (Pp.wayS n p l lev)
    ·as_aux_lemma=>
      obtain⟨s,hs⟩:∃ t,t = Pp.path pp lev l:=⟨_,rfl⟩;have hs32:s.length = 32:=by rw [hs]; exact Pp.path_length _ _ _ HL.out
      obtain⟨SD,hSD⟩:∃ t,t = (bcells s).toArray:=⟨_,rfl⟩;rw [<- hs] at hat hway;rw [<- hSD] at hat;have HSS:=hid (show SD.size = 32 by rw [hSD,List.size_toArray,bcells_length]; exact hs32)
      have HSA:=hid (show SD.all (·.oneCell') = true by rw [hSD]; exact bcells_all _)
      have HSI:=hid (h32Info HSS.out);have HOS:=hid (λ(u:World) (q:Nat) (h:u.heap[q]? = some (.cells SD 25 (0,0)))=>own_one5 hs32 (by rw [<- hSD]; exact h))
      have HAT:=hid hat;clear hat;have hdl:=λu=>refdown_left s hs32 u
      have hdr:=λu=>refdown_right s hs32 u
      obtain⟨sl,hsl⟩:∃ t,t = Sm.sum (Pp.wLeft ++ s):=⟨_,rfl⟩;have hsl32:sl.length = 32:=by rw [hsl]; exact sum_length _
      obtain⟨LD,hLD⟩:∃ t,t = (bcells sl).toArray:=⟨_,rfl⟩;obtain⟨sr,hsr⟩:∃ t,t = Sm.sum (Pp.wRight ++ s):=⟨_,rfl⟩;have hsr32:sr.length = 32:=by rw [hsr]; exact sum_length _
      obtain⟨GD,hGD⟩:∃ t,t = (bcells sr).toArray:=⟨_,rfl⟩;rw [<- hsl,<- hLD,<- hSD] at hdl;rw [<- hsr,<- hGD,<- hSD] at hdr;have HLS:=hid (show LD.size = 32 by rw [hLD,List.size_toArray,bcells_length]; exact hsl32)
      have HGS:=hid (show GD.size = 32 by rw [hGD,List.size_toArray,bcells_length]; exact hsr32)
      have HOT:=hid (λ(u:World) (q:Nat) (h:u.heap[q]? = some (.cells (LD ++ GD) 25 (0,0)))=>own_two5 hsl32 hsr32 (by rw [<- hLD,<- hGD]; exact h))
      have HDL:=hid hdl;have HDR:=hid hdr
      have HUPL:=hid (show Pp.upto n P p l lev ++ [([s],[sl,sr])] = Pp.upto n P p l (lev + 1) by
       rw [<- hUP]
       congr 1
       unfold Pp.lev1 Pp.lfact;rw [if_pos (.inr hw),if_neg (by omega),hway,hsl,hsr]
       rfl)
      have HWH:=hid (λu hu=>by have:=hwh u hu; rwa [decide_eq_true (hdec.2 hw)] at this)
      clear hdl hdr hsl hsr hsl32 hsr32 hLD hGD hs hs32 hSD hUP hway hdec hwh hw hpow hN2 hpp;have hlt:(lev:Int) < (n:Int):=by omega
      have hbe:((lev:Int) == (n:Int)) = false:=by rw [beq_eq_false_iff_ne]; omega
      go_upto_region 5 with fail
      refine wp_region_lit ?_;iterate 5 (refine wW λK hK=>?_;go_simp;apply hK;clear hK K)
      refine wW λK hK=>?_;go_simp;go_at_call 54
      (first | rw [HWR.out] | rw [HNK.out])
      refine(HP.out _).mono ?_;rintro e w2 ⟨rfl,hw2⟩;subst w2;apply hK;clear hK K;refine wW λK hK=>?_;go_simp;rw [HQ.out];apply hK;clear hK K;refine wW λK hK=>?_;go_simp;apply hK;clear hK K
      go_upto_region 6 with fail
      refine wp_region_lit ?_;iterate 5 (refine wW λK hK=>?_;go_simp;apply hK;clear hK K)
      refine wLk 60 (.tmp 2) rfl (wa) (0) rfl (.agg RD) (run_loadVar_row wr wa 60 60 RD (0,0) _ HF.out.row Try.underlying60 rfl HRI.out) ?_
      simp only [Act.put,sA,sB,sC];iterate 2 (refine wW λK hK=>?_;go_simp;apply hK;clear hK K)
      refine wW λK hK=>?_;go_simp;go_at_call 55
      refine(HWH.out wr (HT.out.kept HF.out.kept (Nat.le_refl _))).mono ?_;rintro e w3 ⟨rfl,kz⟩;apply hK;clear hK K;iterate 2 (refine wW λK hK=>?_;go_simp;apply hK;clear hK K)
      replace HF:=hid (HF.out.step kz)
      clear kz c32;have c32:=hcell.out _ _ HF.out.row
      go_upto_region 7 with fail
      refine wp_region_lit ?_;refine wLk 60 (.tmp 2) rfl (wa) (0) rfl (.agg RD) (run_loadVar_row w3 wa 60 60 RD (0,0) _ HF.out.row Try.underlying60 rfl HRI.out) ?_
      simp only [Act.put,sA,sB,sC];iterate 2 (refine wW λK hK=>?_;go_simp;apply hK;clear hK K)
      refine wW λK hK=>?_;go_simp;go_at_call 56
      refine(HAT.out w3).mono ?_;rintro e w6 ⟨rfl,kz⟩;apply hK;clear hK K
      replace HF:=hid (HF.out.step kz)
      clear kz c32;refine wpList_alloc_k rfl 25 rfl (alloc_hash32 _) ?_
      simp only [Act.put,sA,sB,sC];refine wpList_store_row rfl 25 _ _ rfl (w6.heap.size) SD rfl rfl 25 zeros32 (heap_new _ _) (HSI.out) (by rw [zeros32_size,HSS.out]) (HSA.out) ?_
      simp only [Act.put];rw [World.setRow_alloc_new];have F7:=hid (HF.out.step (w':=w6.alloc (.cells SD 25)) ((Kept.refl _ _ _).alloc (Nat.le_refl _) _))
      have B7:=hid (heap_new w6 (.cells SD 25))
      obtain⟨sb,hsb⟩:∃ sb,sb = w6.heap.size:=⟨_,rfl⟩;rw [<- hsb] at B7 |-;clear hsb HF;generalize w6.alloc (.cells SD 25) = w7 at F7 B7 |-
      have c32:=hcell.out _ _ F7.out.row;have kd0:Kept w7.heap.size w7.heap.size w7 w7.drew:=(Kept.refl _ _ _).drew;have FD:=hid (F7.out.step kd0);have BD:=hid (rk B7.out kd0);clear kd0 F7 B7
      go_upto_region 10 with fail
      refine wp_region_noPanic ?_;refine wp_region_held_drew (S:=λu=>u.heap[wa]? = some (.cells RD 60 (0,0))/\u.heap[sb]? = some (.cells SD 25 (0,0))) (by kernel_rfl) (⟨FD.out.row,BD.out⟩) (λhH=>?_)
      generalize w7.drew = wd at FD BD hH |-;refine tkE (i:=0) 51 rfl hH ?_
      apply Exists.intro;apply And.intro
      ·intro w9 _
       go_simp
       first | done | rfl
      simp only [sA,sB,sC];refine tkA (i:=1) 52 (.agg SD) rfl (yieldsIf_load_known (by kernel_rfl) 25 _ rfl (sb) (0) rfl (.agg SD) (λw9 h9=>run_loadVar_row w9 sb 25 25 SD (0,0) _ h9.2 Try.underlying25 rfl HSI.out)) hH ?_
      simp only [sA,sB,sC];refine tkA (i:=3) 54 (.agg SD) rfl (yieldsIf_load_known (by kernel_rfl) 25 _ rfl (sb) (0) rfl (.agg SD) (λw9 h9=>run_loadVar_row w9 sb 25 25 SD (0,0) _ h9.2 Try.underlying25 rfl HSI.out)) hH ?_
      simp only [sA,sB,sC];refine tkA (i:=5) 56 (.agg SD) rfl (yieldsIf_load_known (by kernel_rfl) 25 _ rfl (sb) (0) rfl (.agg SD) (λw9 h9=>run_loadVar_row w9 sb 25 25 SD (0,0) _ h9.2 Try.underlying25 rfl HSI.out)) hH ?_
      simp only [sA,sB,sC];refine wpAnyH_ready (rs:=[2,4]) (by kernel_rfl) (by simp) ?_
      refine AllReadyH.cons rfl (λK hK=>?_) ?_
      ·rw [if_pos (by rfl)]
       refine wp_build_one _ 33 25 rfl i0 z0 Try.underlying33 HI0.out HZ0.out SD rfl (by rw [HS0.out]; exact HSS.out) (by rw [HS0.out]; decide) (by rw [HS0.out]; decide) ?_
       simp only [Act.put,sA,sB,sC,List.getElem_toArray,List.getElem_cons_succ,List.getElem_cons_zero];have kz:Kept wd.heap.size wd.heap.size wd (wd.alloc (.cells SD 25)):=(Kept.refl _ _ _).alloc (Nat.le_refl _) _
       have Fx27:=hid ((FD.out.step kz));have Bx28:=hid (((kz).block _ (lt_of_block BD.out) (Nat.ne_of_lt (lt_of_block BD.out))).trans BD.out);have Y53:=hid (HOS.out _ _ (heap_new wd (.cells SD 25)))
       refine hK.out _ _ ⟨Fx27.out.row,Bx28.out⟩ (λhH=>?_)
       clear hK K FD BD kz;obtain⟨q53,hq53⟩:∃ q,q = wd.heap.size:=⟨_,rfl⟩;rw [<- hq53] at Y53 |-;clear hq53;generalize wd.alloc (.cells SD 25) = v12w at Fx27 Bx28 Y53 hH |-
       refine wpAnyH_ready (rs:=[4]) (by kernel_rfl) (by simp) ?_
       refine AllReadyH.cons rfl (λK hK=>?_) AllReadyH.nil
       rw [if_pos (by rfl)]
       go_simp
       go_wp2_with (go_at_call 58; refine(HDL.out v12w).mono ?_; rintro e v13w ⟨rfl,kz⟩)
       have Fx29:=hid ((Fx27.out.step kz));have Bx30:=hid (((kz).block _ (lt_of_block Bx28.out) (Nat.ne_of_lt (lt_of_block Bx28.out))).trans Bx28.out);have Y53x31:=hid (Y53.out.kept kz (Nat.le_refl _));refine hK.out _ _ ⟨Fx29.out.row,Bx30.out⟩ (λhH=>?_)
       clear hK K Fx27 Bx28 Y53 kz;refine wpAnyH_ready (rs:=[6]) (by kernel_rfl) (by simp) ?_
       refine AllReadyH.cons rfl (λK hK=>?_) AllReadyH.nil
       rw [if_pos (by rfl)]
       go_simp
       go_wp2_with (go_at_call 58; refine(HDR.out v13w).mono ?_; rintro e v14w ⟨rfl,kz⟩)
       have Fx32:=hid ((Fx29.out.step kz));have Bx33:=hid (((kz).block _ (lt_of_block Bx30.out) (Nat.ne_of_lt (lt_of_block Bx30.out))).trans Bx30.out);have Y53x34:=hid (Y53x31.out.kept kz (Nat.le_refl _));refine hK.out _ _ ⟨Fx32.out.row,Bx33.out⟩ (λhH=>?_)
       clear hK K Fx29 Bx30 Y53x31 kz;refine wpAnyH_ready (rs:=[7]) (by kernel_rfl) (by simp) ?_
       refine AllReadyH.cons rfl (λK hK=>?_) AllReadyH.nil
       rw [if_pos (by rfl)]
       refine wp_sliceN 33 2 _ rfl #[(0,.agg LD),(1,.agg GD)] (by simp only [List.map_toArray,List.map_cons,List.map_nil]; rfl) (run_build_two v14w 33 25 i0 z0 Try.underlying33 HI0.out HZ0.out LD GD (by rw [HS0.out]; exact HLS.out) (by rw [HS0.out]; exact HGS.out) (by rw [HS0.out]; decide) (by rw [HS0.out]; decide)) ?_
       simp only [Act.put,sA,sB,sC,List.getElem_toArray,List.getElem_cons_succ,List.getElem_cons_zero];have kz:Kept v14w.heap.size v14w.heap.size v14w (v14w.alloc (.cells (LD ++ GD) 25)):=(Kept.refl _ _ _).alloc (Nat.le_refl _) _
       have Fx35:=hid ((Fx32.out.step kz));have Bx36:=hid (((kz).block _ (lt_of_block Bx33.out) (Nat.ne_of_lt (lt_of_block Bx33.out))).trans Bx33.out);have Y53x37:=hid (Y53x34.out.kept kz (Nat.le_refl _));have Y58:=hid (HOT.out _ _ (heap_new v14w (.cells (LD ++ GD) 25)))
       refine hK.out _ _ ⟨Fx35.out.row,Bx36.out⟩ (λhH=>?_)
       clear hK K Fx32 Bx33 Y53x34 kz;obtain⟨q58,hq58⟩:∃ q,q = v14w.heap.size:=⟨_,rfl⟩;rw [<- hq58] at Y58 |-;clear hq58;generalize v14w.alloc (.cells (LD ++ GD) 25) = v15w at Fx35 Bx36 Y53x37 Y58 hH |-
       refine wpAnyH_ready (rs:=[8]) (by kernel_rfl) (by simp) ?_
       refine AllReadyH.cons rfl (λK hK=>?_) AllReadyH.nil
       rw [if_pos (by rfl)]
       refine wp_buildN 35 _ rfl #[(0,.slice (some ⟨q53,0,none⟩) 1 1),(1,.slice (some ⟨q58,0,none⟩) 2 2)] (by simp only [List.map_toArray,List.map_cons,List.map_nil]; rfl) (build_made5 _ _ _ _ _ _ _) ?_
       simp only [Act.put,sA,sB,sC,List.getElem_toArray,List.getElem_cons_succ,List.getElem_cons_zero];refine hK.out _ _ ⟨Fx35.out.row,Bx36.out⟩ (λhH=>?_)
       clear hK K;refine wpAnyH_ready (rs:=[9]) (by kernel_rfl) (by simp) ?_
       refine AllReadyH.cons rfl (λK hK=>?_) AllReadyH.nil
       rw [if_pos (by rfl)]
       refine wp_build_one _ 31 35 rfl iF zF Try.underlying31 HIF.out HZF.out #[.slice (some ⟨q53,0,none⟩) 1 1,.slice (some ⟨q58,0,none⟩) 2 2] rfl (by rw [HSF.out]; rfl) (by rw [HSF.out]; decide) (by rw [HSF.out]; decide) ?_
       simp only [Act.put,sA,sB,sC,List.getElem_toArray,List.getElem_cons_succ,List.getElem_cons_zero];have kz:Kept v15w.heap.size v15w.heap.size v15w (v15w.alloc (.cells #[.slice (some ⟨q53,0,none⟩) 1 1,.slice (some ⟨q58,0,none⟩) 2 2] 35)):=(Kept.refl _ _ _).alloc (Nat.le_refl _) _
       have Y60:Hid (FRow (v15w.alloc (.cells #[.slice (some ⟨q53,0,none⟩) 1 1,.slice (some ⟨q58,0,none⟩) 2 2] 35)) (.slice (some ⟨v15w.heap.size,0,none⟩) 1 1) [([s],[sl,sr])]):=hid (frow_one (f:=([s],[sl,sr])) (Y53x37.out.kept kz (Nat.le_refl _)) (Y58.out.kept kz (Nat.le_refl _)) (heap_new _ _))
       have Fx38:=hid ((Fx35.out.step kz));have Bx39:=hid (((kz).block _ (lt_of_block Bx36.out) (Nat.ne_of_lt (lt_of_block Bx36.out))).trans Bx36.out);refine hK.out _ _ ⟨Fx38.out.row,Bx39.out⟩ (λhH=>?_)
       clear hK K Fx35 Bx36 kz Y53x37 Y58;obtain⟨q60,hq60⟩:∃ q,q = v15w.heap.size:=⟨_,rfl⟩;rw [<- hq60] at Y60 |-;clear hq60;generalize v15w.alloc (.cells #[.slice (some ⟨q53,0,none⟩) 1 1,.slice (some ⟨q58,0,none⟩) 2 2] 35) = v16w at Fx38 Bx39 Y60 hH |-
       refine wpAnyH_ready (rs:=[10]) (by kernel_rfl) (by simp) ?_
       refine AllReadyH.cons rfl (λK hK=>?_) AllReadyH.nil
       rw [if_pos (by rfl)]
       obtain⟨v9,u9,hr9,ho9,hg9⟩:=Fx38.out.own.apd Fx38.out.size Y60.out (by have:=HLEN.out; simp only [List.length_cons,List.length_nil]; omega)
       refine wp_append_known (.tmp 51) (.tmp 60) 31 31 31 rfl rfl u5 (.slice (some ⟨q60,0,none⟩) 1 1) rfl rfl hr9 ?_
       simp only [Act.put,sA,sB,sC,List.getElem_toArray,List.getElem_cons_succ,List.getElem_cons_zero];have F9:=hid (Fx38.out.more ho9 hg9);have B9:=hid (Fx38.out.moreG hg9 Bx39.out (by decide))
       refine hK.out _ _ ⟨F9.out.row,B9.out⟩ (λhH=>?_)
       clear hK K hr9 ho9 hg9 Fx38 Bx39 Y60;refine wpAnyH_ready (rs:=[11]) (by kernel_rfl) (by simp) ?_
       refine AllReadyH.cons rfl (λK hK=>?_) AllReadyH.nil
       rw [if_pos (by rfl)]
       go_simp;refine hK.out _ _ ⟨F9.out.row,B9.out⟩ (λhH=>?_)
       clear hK K;refine wpAnyH_done (by kernel_rfl) ?_ _
       refine NoPanic.normal ?_;have F9':=hid F9.out;clear hH B9 F9;go_wp2
       go_roundw
       case rel=>exact⟨lev + 1,by simp,hid (by have:=HLV.out; omega),hid (by have:=F9'.out; rwa [HUPL.out] at this)⟩
       case measure=>simp [RowKit.intOf]; omega
      refine AllReadyH.cons rfl (λK hK=>?_) AllReadyH.nil
      rw [if_pos (by rfl)]
      go_simp
      go_wp2_with (go_at_call 58; refine(HDL.out wd).mono ?_; rintro e v17w ⟨rfl,kz⟩)
      have Fx40:=hid ((FD.out.step kz));have Bx41:=hid (((kz).block _ (lt_of_block BD.out) (Nat.ne_of_lt (lt_of_block BD.out))).trans BD.out);refine hK.out _ _ ⟨Fx40.out.row,Bx41.out⟩ (λhH=>?_)
      clear hK K FD BD kz;refine wpAnyH_ready (rs:=[2,6]) (by kernel_rfl) (by simp) ?_
      refine AllReadyH.cons rfl (λK hK=>?_) ?_
      ·rw [if_pos (by rfl)]
       refine wp_build_one _ 33 25 rfl i0 z0 Try.underlying33 HI0.out HZ0.out SD rfl (by rw [HS0.out]; exact HSS.out) (by rw [HS0.out]; decide) (by rw [HS0.out]; decide) ?_
       simp only [Act.put,sA,sB,sC,List.getElem_toArray,List.getElem_cons_succ,List.getElem_cons_zero];have kz:Kept v17w.heap.size v17w.heap.size v17w (v17w.alloc (.cells SD 25)):=(Kept.refl _ _ _).alloc (Nat.le_refl _) _
       have Fx42:=hid ((Fx40.out.step kz));have Bx43:=hid (((kz).block _ (lt_of_block Bx41.out) (Nat.ne_of_lt (lt_of_block Bx41.out))).trans Bx41.out);have Y53:=hid (HOS.out _ _ (heap_new v17w (.cells SD 25)))
       refine hK.out _ _ ⟨Fx42.out.row,Bx43.out⟩ (λhH=>?_)
       clear hK K Fx40 Bx41 kz;obtain⟨q53,hq53⟩:∃ q,q = v17w.heap.size:=⟨_,rfl⟩;rw [<- hq53] at Y53 |-;clear hq53;generalize v17w.alloc (.cells SD 25) = v18w at Fx42 Bx43 Y53 hH |-
       refine wpAnyH_ready (rs:=[6]) (by kernel_rfl) (by simp) ?_
       refine AllReadyH.cons rfl (λK hK=>?_) AllReadyH.nil
       rw [if_pos (by rfl)]
       go_simp
       go_wp2_with (go_at_call 58; refine(HDR.out v18w).mono ?_; rintro e v19w ⟨rfl,kz⟩)
       have Fx44:=hid ((Fx42.out.step kz));have Bx45:=hid (((kz).block _ (lt_of_block Bx43.out) (Nat.ne_of_lt (lt_of_block Bx43.out))).trans Bx43.out);have Y53x46:=hid (Y53.out.kept kz (Nat.le_refl _));refine hK.out _ _ ⟨Fx44.out.row,Bx45.out⟩ (λhH=>?_)
       clear hK K Fx42 Bx43 Y53 kz;refine wpAnyH_ready (rs:=[7]) (by kernel_rfl) (by simp) ?_
       refine AllReadyH.cons rfl (λK hK=>?_) AllReadyH.nil
       rw [if_pos (by rfl)]
       refine wp_sliceN 33 2 _ rfl #[(0,.agg LD),(1,.agg GD)] (by simp only [List.map_toArray,List.map_cons,List.map_nil]; rfl) (run_build_two v19w 33 25 i0 z0 Try.underlying33 HI0.out HZ0.out LD GD (by rw [HS0.out]; exact HLS.out) (by rw [HS0.out]; exact HGS.out) (by rw [HS0.out]; decide) (by rw [HS0.out]; decide)) ?_
       simp only [Act.put,sA,sB,sC,List.getElem_toArray,List.getElem_cons_succ,List.getElem_cons_zero];have kz:Kept v19w.heap.size v19w.heap.size v19w (v19w.alloc (.cells (LD ++ GD) 25)):=(Kept.refl _ _ _).alloc (Nat.le_refl _) _
       have Fx47:=hid ((Fx44.out.step kz));have Bx48:=hid (((kz).block _ (lt_of_block Bx45.out) (Nat.ne_of_lt (lt_of_block Bx45.out))).trans Bx45.out);have Y53x49:=hid (Y53x46.out.kept kz (Nat.le_refl _));have Y58:=hid (HOT.out _ _ (heap_new v19w (.cells (LD ++ GD) 25)))
       refine hK.out _ _ ⟨Fx47.out.row,Bx48.out⟩ (λhH=>?_)
       clear hK K Fx44 Bx45 Y53x46 kz;obtain⟨q58,hq58⟩:∃ q,q = v19w.heap.size:=⟨_,rfl⟩;rw [<- hq58] at Y58 |-;clear hq58;generalize v19w.alloc (.cells (LD ++ GD) 25) = v20w at Fx47 Bx48 Y53x49 Y58 hH |-
       refine wpAnyH_ready (rs:=[8]) (by kernel_rfl) (by simp) ?_
       refine AllReadyH.cons rfl (λK hK=>?_) AllReadyH.nil
       rw [if_pos (by rfl)]
       refine wp_buildN 35 _ rfl #[(0,.slice (some ⟨q53,0,none⟩) 1 1),(1,.slice (some ⟨q58,0,none⟩) 2 2)] (by simp only [List.map_toArray,List.map_cons,List.map_nil]; rfl) (build_made5 _ _ _ _ _ _ _) ?_
       simp only [Act.put,sA,sB,sC,List.getElem_toArray,List.getElem_cons_succ,List.getElem_cons_zero];refine hK.out _ _ ⟨Fx47.out.row,Bx48.out⟩ (λhH=>?_)
       clear hK K;refine wpAnyH_ready (rs:=[9]) (by kernel_rfl) (by simp) ?_
       refine AllReadyH.cons rfl (λK hK=>?_) AllReadyH.nil
       rw [if_pos (by rfl)]
       refine wp_build_one _ 31 35 rfl iF zF Try.underlying31 HIF.out HZF.out #[.slice (some ⟨q53,0,none⟩) 1 1,.slice (some ⟨q58,0,none⟩) 2 2] rfl (by rw [HSF.out]; rfl) (by rw [HSF.out]; decide) (by rw [HSF.out]; decide) ?_
       simp only [Act.put,sA,sB,sC,List.getElem_toArray,List.getElem_cons_succ,List.getElem_cons_zero];have kz:Kept v20w.heap.size v20w.heap.size v20w (v20w.alloc (.cells #[.slice (some ⟨q53,0,none⟩) 1 1,.slice (some ⟨q58,0,none⟩) 2 2] 35)):=(Kept.refl _ _ _).alloc (Nat.le_refl _) _
       have Y60:Hid (FRow (v20w.alloc (.cells #[.slice (some ⟨q53,0,none⟩) 1 1,.slice (some ⟨q58,0,none⟩) 2 2] 35)) (.slice (some ⟨v20w.heap.size,0,none⟩) 1 1) [([s],[sl,sr])]):=hid (frow_one (f:=([s],[sl,sr])) (Y53x49.out.kept kz (Nat.le_refl _)) (Y58.out.kept kz (Nat.le_refl _)) (heap_new _ _))
       have Fx50:=hid ((Fx47.out.step kz));have Bx51:=hid (((kz).block _ (lt_of_block Bx48.out) (Nat.ne_of_lt (lt_of_block Bx48.out))).trans Bx48.out);refine hK.out _ _ ⟨Fx50.out.row,Bx51.out⟩ (λhH=>?_)
       clear hK K Fx47 Bx48 kz Y53x49 Y58;obtain⟨q60,hq60⟩:∃ q,q = v20w.heap.size:=⟨_,rfl⟩;rw [<- hq60] at Y60 |-;clear hq60;generalize v20w.alloc (.cells #[.slice (some ⟨q53,0,none⟩) 1 1,.slice (some ⟨q58,0,none⟩) 2 2] 35) = v21w at Fx50 Bx51 Y60 hH |-
       refine wpAnyH_ready (rs:=[10]) (by kernel_rfl) (by simp) ?_
       refine AllReadyH.cons rfl (λK hK=>?_) AllReadyH.nil
       rw [if_pos (by rfl)]
       obtain⟨v9,u9,hr9,ho9,hg9⟩:=Fx50.out.own.apd Fx50.out.size Y60.out (by have:=HLEN.out; simp only [List.length_cons,List.length_nil]; omega)
       refine wp_append_known (.tmp 51) (.tmp 60) 31 31 31 rfl rfl u5 (.slice (some ⟨q60,0,none⟩) 1 1) rfl rfl hr9 ?_
       simp only [Act.put,sA,sB,sC,List.getElem_toArray,List.getElem_cons_succ,List.getElem_cons_zero];have F9:=hid (Fx50.out.more ho9 hg9);have B9:=hid (Fx50.out.moreG hg9 Bx51.out (by decide))
       refine hK.out _ _ ⟨F9.out.row,B9.out⟩ (λhH=>?_)
       clear hK K hr9 ho9 hg9 Fx50 Bx51 Y60;refine wpAnyH_ready (rs:=[11]) (by kernel_rfl) (by simp) ?_
       refine AllReadyH.cons rfl (λK hK=>?_) AllReadyH.nil
       rw [if_pos (by rfl)]
       go_simp;refine hK.out _ _ ⟨F9.out.row,B9.out⟩ (λhH=>?_)
       clear hK K;refine wpAnyH_done (by kernel_rfl) ?_ _
       refine NoPanic.normal ?_;have F9':=hid F9.out;clear hH B9 F9;go_wp2
       go_roundw
       case rel=>exact⟨lev + 1,by simp,hid (by have:=HLV.out; omega),hid (by have:=F9'.out; rwa [HUPL.out] at this)⟩
       case measure=>simp [RowKit.intOf]; omega
      refine AllReadyH.cons rfl (λK hK=>?_) AllReadyH.nil
      rw [if_pos (by rfl)]
      go_simp
      go_wp2_with (go_at_call 58; refine(HDR.out v17w).mono ?_; rintro e v22w ⟨rfl,kz⟩)
      have Fx52:=hid ((Fx40.out.step kz));have Bx53:=hid (((kz).block _ (lt_of_block Bx41.out) (Nat.ne_of_lt (lt_of_block Bx41.out))).trans Bx41.out);refine hK.out _ _ ⟨Fx52.out.row,Bx53.out⟩ (λhH=>?_)
      clear hK K Fx40 Bx41 kz;refine wpAnyH_ready (rs:=[2,7]) (by kernel_rfl) (by simp) ?_
      refine AllReadyH.cons rfl (λK hK=>?_) ?_
      ·rw [if_pos (by rfl)]
       refine wp_build_one _ 33 25 rfl i0 z0 Try.underlying33 HI0.out HZ0.out SD rfl (by rw [HS0.out]; exact HSS.out) (by rw [HS0.out]; decide) (by rw [HS0.out]; decide) ?_
       simp only [Act.put,sA,sB,sC,List.getElem_toArray,List.getElem_cons_succ,List.getElem_cons_zero];have kz:Kept v22w.heap.size v22w.heap.size v22w (v22w.alloc (.cells SD 25)):=(Kept.refl _ _ _).alloc (Nat.le_refl _) _
       have Fx54:=hid ((Fx52.out.step kz));have Bx55:=hid (((kz).block _ (lt_of_block Bx53.out) (Nat.ne_of_lt (lt_of_block Bx53.out))).trans Bx53.out);have Y53:=hid (HOS.out _ _ (heap_new v22w (.cells SD 25)))
       refine hK.out _ _ ⟨Fx54.out.row,Bx55.out⟩ (λhH=>?_)
       clear hK K Fx52 Bx53 kz;obtain⟨q53,hq53⟩:∃ q,q = v22w.heap.size:=⟨_,rfl⟩;rw [<- hq53] at Y53 |-;clear hq53;generalize v22w.alloc (.cells SD 25) = v23w at Fx54 Bx55 Y53 hH |-
       refine wpAnyH_ready (rs:=[7]) (by kernel_rfl) (by simp) ?_
       refine AllReadyH.cons rfl (λK hK=>?_) AllReadyH.nil
       rw [if_pos (by rfl)]
       refine wp_sliceN 33 2 _ rfl #[(0,.agg LD),(1,.agg GD)] (by simp only [List.map_toArray,List.map_cons,List.map_nil]; rfl) (run_build_two v23w 33 25 i0 z0 Try.underlying33 HI0.out HZ0.out LD GD (by rw [HS0.out]; exact HLS.out) (by rw [HS0.out]; exact HGS.out) (by rw [HS0.out]; decide) (by rw [HS0.out]; decide)) ?_
       simp only [Act.put,sA,sB,sC,List.getElem_toArray,List.getElem_cons_succ,List.getElem_cons_zero];have kz:Kept v23w.heap.size v23w.heap.size v23w (v23w.alloc (.cells (LD ++ GD) 25)):=(Kept.refl _ _ _).alloc (Nat.le_refl _) _
       have Fx56:=hid ((Fx54.out.step kz));have Bx57:=hid (((kz).block _ (lt_of_block Bx55.out) (Nat.ne_of_lt (lt_of_block Bx55.out))).trans Bx55.out);have Y53x58:=hid (Y53.out.kept kz (Nat.le_refl _));have Y58:=hid (HOT.out _ _ (heap_new v23w (.cells (LD ++ GD) 25)))
       refine hK.out _ _ ⟨Fx56.out.row,Bx57.out⟩ (λhH=>?_)
       clear hK K Fx54 Bx55 Y53 kz;obtain⟨q58,hq58⟩:∃ q,q = v23w.heap.size:=⟨_,rfl⟩;rw [<- hq58] at Y58 |-;clear hq58;generalize v23w.alloc (.cells (LD ++ GD) 25) = v24w at Fx56 Bx57 Y53x58 Y58 hH |-
       refine wpAnyH_ready (rs:=[8]) (by kernel_rfl) (by simp) ?_
       refine AllReadyH.cons rfl (λK hK=>?_) AllReadyH.nil
       rw [if_pos (by rfl)]
       refine wp_buildN 35 _ rfl #[(0,.slice (some ⟨q53,0,none⟩) 1 1),(1,.slice (some ⟨q58,0,none⟩) 2 2)] (by simp only [List.map_toArray,List.map_cons,List.map_nil]; rfl) (build_made5 _ _ _ _ _ _ _) ?_
       simp only [Act.put,sA,sB,sC,List.getElem_toArray,List.getElem_cons_succ,List.getElem_cons_zero];refine hK.out _ _ ⟨Fx56.out.row,Bx57.out⟩ (λhH=>?_)
       clear hK K;refine wpAnyH_ready (rs:=[9]) (by kernel_rfl) (by simp) ?_
       refine AllReadyH.cons rfl (λK hK=>?_) AllReadyH.nil
       rw [if_pos (by rfl)]
       refine wp_build_one _ 31 35 rfl iF zF Try.underlying31 HIF.out HZF.out #[.slice (some ⟨q53,0,none⟩) 1 1,.slice (some ⟨q58,0,none⟩) 2 2] rfl (by rw [HSF.out]; rfl) (by rw [HSF.out]; decide) (by rw [HSF.out]; decide) ?_
       simp only [Act.put,sA,sB,sC,List.getElem_toArray,List.getElem_cons_succ,List.getElem_cons_zero];have kz:Kept v24w.heap.size v24w.heap.size v24w (v24w.alloc (.cells #[.slice (some ⟨q53,0,none⟩) 1 1,.slice (some ⟨q58,0,none⟩) 2 2] 35)):=(Kept.refl _ _ _).alloc (Nat.le_refl _) _
       have Y60:Hid (FRow (v24w.alloc (.cells #[.slice (some ⟨q53,0,none⟩) 1 1,.slice (some ⟨q58,0,none⟩) 2 2] 35)) (.slice (some ⟨v24w.heap.size,0,none⟩) 1 1) [([s],[sl,sr])]):=hid (frow_one (f:=([s],[sl,sr])) (Y53x58.out.kept kz (Nat.le_refl _)) (Y58.out.kept kz (Nat.le_refl _)) (heap_new _ _))
       have Fx59:=hid ((Fx56.out.step kz));have Bx60:=hid (((kz).block _ (lt_of_block Bx57.out) (Nat.ne_of_lt (lt_of_block Bx57.out))).trans Bx57.out);refine hK.out _ _ ⟨Fx59.out.row,Bx60.out⟩ (λhH=>?_)
       clear hK K Fx56 Bx57 kz Y53x58 Y58;obtain⟨q60,hq60⟩:∃ q,q = v24w.heap.size:=⟨_,rfl⟩;rw [<- hq60] at Y60 |-;clear hq60;generalize v24w.alloc (.cells #[.slice (some ⟨q53,0,none⟩) 1 1,.slice (some ⟨q58,0,none⟩) 2 2] 35) = v25w at Fx59 Bx60 Y60 hH |-
       refine wpAnyH_ready (rs:=[10]) (by kernel_rfl) (by simp) ?_
       refine AllReadyH.cons rfl (λK hK=>?_) AllReadyH.nil
       rw [if_pos (by rfl)]
       obtain⟨v9,u9,hr9,ho9,hg9⟩:=Fx59.out.own.apd Fx59.out.size Y60.out (by have:=HLEN.out; simp only [List.length_cons,List.length_nil]; omega)
       refine wp_append_known (.tmp 51) (.tmp 60) 31 31 31 rfl rfl u5 (.slice (some ⟨q60,0,none⟩) 1 1) rfl rfl hr9 ?_
       simp only [Act.put,sA,sB,sC,List.getElem_toArray,List.getElem_cons_succ,List.getElem_cons_zero];have F9:=hid (Fx59.out.more ho9 hg9);have B9:=hid (Fx59.out.moreG hg9 Bx60.out (by decide))
       refine hK.out _ _ ⟨F9.out.row,B9.out⟩ (λhH=>?_)
       clear hK K hr9 ho9 hg9 Fx59 Bx60 Y60;refine wpAnyH_ready (rs:=[11]) (by kernel_rfl) (by simp) ?_
       refine AllReadyH.cons rfl (λK hK=>?_) AllReadyH.nil
       rw [if_pos (by rfl)]
       go_simp;refine hK.out _ _ ⟨F9.out.row,B9.out⟩ (λhH=>?_)
       clear hK K;refine wpAnyH_done (by kernel_rfl) ?_ _
       refine NoPanic.normal ?_;have F9':=hid F9.out;clear hH B9 F9;go_wp2
       go_roundw
       case rel=>exact⟨lev + 1,by simp,hid (by have:=HLV.out; omega),hid (by have:=F9'.out; rwa [HUPL.out] at this)⟩
       case measure=>simp [RowKit.intOf]; omega
      refine AllReadyH.cons rfl (λK hK=>?_) AllReadyH.nil
      rw [if_pos (by rfl)]
      refine wp_sliceN 33 2 _ rfl #[(0,.agg LD),(1,.agg GD)] (by simp only [List.map_toArray,List.map_cons,List.map_nil]; rfl) (run_build_two v22w 33 25 i0 z0 Try.underlying33 HI0.out HZ0.out LD GD (by rw [HS0.out]; exact HLS.out) (by rw [HS0.out]; exact HGS.out) (by rw [HS0.out]; decide) (by rw [HS0.out]; decide)) ?_
      simp only [Act.put,sA,sB,sC,List.getElem_toArray,List.getElem_cons_succ,List.getElem_cons_zero];have kz:Kept v22w.heap.size v22w.heap.size v22w (v22w.alloc (.cells (LD ++ GD) 25)):=(Kept.refl _ _ _).alloc (Nat.le_refl _) _
      have Fx61:=hid ((Fx52.out.step kz));have Bx62:=hid (((kz).block _ (lt_of_block Bx53.out) (Nat.ne_of_lt (lt_of_block Bx53.out))).trans Bx53.out);have Y58:=hid (HOT.out _ _ (heap_new v22w (.cells (LD ++ GD) 25)))
      refine hK.out _ _ ⟨Fx61.out.row,Bx62.out⟩ (λhH=>?_)
      clear hK K Fx52 Bx53 kz;obtain⟨q58,hq58⟩:∃ q,q = v22w.heap.size:=⟨_,rfl⟩;rw [<- hq58] at Y58 |-;clear hq58;generalize v22w.alloc (.cells (LD ++ GD) 25) = v26w at Fx61 Bx62 Y58 hH |-
      refine wpAnyH_ready (rs:=[2]) (by kernel_rfl) (by simp) ?_
      refine AllReadyH.cons rfl (λK hK=>?_) AllReadyH.nil
      rw [if_pos (by rfl)]
      refine wp_build_one _ 33 25 rfl i0 z0 Try.underlying33 HI0.out HZ0.out SD rfl (by rw [HS0.out]; exact HSS.out) (by rw [HS0.out]; decide) (by rw [HS0.out]; decide) ?_
      simp only [Act.put,sA,sB,sC,List.getElem_toArray,List.getElem_cons_succ,List.getElem_cons_zero];have kz:Kept v26w.heap.size v26w.heap.size v26w (v26w.alloc (.cells SD 25)):=(Kept.refl _ _ _).alloc (Nat.le_refl _) _
      have Fx63:=hid ((Fx61.out.step kz));have Bx64:=hid (((kz).block _ (lt_of_block Bx62.out) (Nat.ne_of_lt (lt_of_block Bx62.out))).trans Bx62.out);have Y58x65:=hid (Y58.out.kept kz (Nat.le_refl _));have Y53:=hid (HOS.out _ _ (heap_new v26w (.cells SD 25)))
      refine hK.out _ _ ⟨Fx63.out.row,Bx64.out⟩ (λhH=>?_)
      clear hK K Fx61 Bx62 Y58 kz;obtain⟨q53,hq53⟩:∃ q,q = v26w.heap.size:=⟨_,rfl⟩;rw [<- hq53] at Y53 |-;clear hq53;generalize v26w.alloc (.cells SD 25) = v27w at Fx63 Bx64 Y58x65 Y53 hH |-
      refine wpAnyH_ready (rs:=[8]) (by kernel_rfl) (by simp) ?_
      refine AllReadyH.cons rfl (λK hK=>?_) AllReadyH.nil
      rw [if_pos (by rfl)]
      refine wp_buildN 35 _ rfl #[(0,.slice (some ⟨q53,0,none⟩) 1 1),(1,.slice (some ⟨q58,0,none⟩) 2 2)] (by simp only [List.map_toArray,List.map_cons,List.map_nil]; rfl) (build_made5 _ _ _ _ _ _ _) ?_
      simp only [Act.put,sA,sB,sC,List.getElem_toArray,List.getElem_cons_succ,List.getElem_cons_zero];refine hK.out _ _ ⟨Fx63.out.row,Bx64.out⟩ (λhH=>?_)
      clear hK K;refine wpAnyH_ready (rs:=[9]) (by kernel_rfl) (by simp) ?_
      refine AllReadyH.cons rfl (λK hK=>?_) AllReadyH.nil
      rw [if_pos (by rfl)]
      refine wp_build_one _ 31 35 rfl iF zF Try.underlying31 HIF.out HZF.out #[.slice (some ⟨q53,0,none⟩) 1 1,.slice (some ⟨q58,0,none⟩) 2 2] rfl (by rw [HSF.out]; rfl) (by rw [HSF.out]; decide) (by rw [HSF.out]; decide) ?_
      simp only [Act.put,sA,sB,sC,List.getElem_toArray,List.getElem_cons_succ,List.getElem_cons_zero];have kz:Kept v27w.heap.size v27w.heap.size v27w (v27w.alloc (.cells #[.slice (some ⟨q53,0,none⟩) 1 1,.slice (some ⟨q58,0,none⟩) 2 2] 35)):=(Kept.refl _ _ _).alloc (Nat.le_refl _) _
      have Y60:Hid (FRow (v27w.alloc (.cells #[.slice (some ⟨q53,0,none⟩) 1 1,.slice (some ⟨q58,0,none⟩) 2 2] 35)) (.slice (some ⟨v27w.heap.size,0,none⟩) 1 1) [([s],[sl,sr])]):=hid (frow_one (f:=([s],[sl,sr])) (Y53.out.kept kz (Nat.le_refl _)) (Y58x65.out.kept kz (Nat.le_refl _)) (heap_new _ _))
      have Fx66:=hid ((Fx63.out.step kz));have Bx67:=hid (((kz).block _ (lt_of_block Bx64.out) (Nat.ne_of_lt (lt_of_block Bx64.out))).trans Bx64.out);refine hK.out _ _ ⟨Fx66.out.row,Bx67.out⟩ (λhH=>?_)
      clear hK K Fx63 Bx64 kz Y53 Y58x65;obtain⟨q60,hq60⟩:∃ q,q = v27w.heap.size:=⟨_,rfl⟩;rw [<- hq60] at Y60 |-;clear hq60;generalize v27w.alloc (.cells #[.slice (some ⟨q53,0,none⟩) 1 1,.slice (some ⟨q58,0,none⟩) 2 2] 35) = v28w at Fx66 Bx67 Y60 hH |-
      refine wpAnyH_ready (rs:=[10]) (by kernel_rfl) (by simp) ?_
      refine AllReadyH.cons rfl (λK hK=>?_) AllReadyH.nil
      rw [if_pos (by rfl)]
      obtain⟨v9,u9,hr9,ho9,hg9⟩:=Fx66.out.own.apd Fx66.out.size Y60.out (by have:=HLEN.out; simp only [List.length_cons,List.length_nil]; omega)
      refine wp_append_known (.tmp 51) (.tmp 60) 31 31 31 rfl rfl u5 (.slice (some ⟨q60,0,none⟩) 1 1) rfl rfl hr9 ?_
      simp only [Act.put,sA,sB,sC,List.getElem_toArray,List.getElem_cons_succ,List.getElem_cons_zero];have F9:=hid (Fx66.out.more ho9 hg9);have B9:=hid (Fx66.out.moreG hg9 Bx67.out (by decide))
      refine hK.out _ _ ⟨F9.out.row,B9.out⟩ (λhH=>?_)
      clear hK K hr9 ho9 hg9 Fx66 Bx67 Y60;refine wpAnyH_ready (rs:=[11]) (by kernel_rfl) (by simp) ?_
      refine AllReadyH.cons rfl (λK hK=>?_) AllReadyH.nil
      rw [if_pos (by rfl)]
      go_simp;refine hK.out _ _ ⟨F9.out.row,B9.out⟩ (λhH=>?_)
      clear hK K;refine wpAnyH_done (by kernel_rfl) ?_ _
      refine NoPanic.normal ?_;have F9':=hid F9.out;clear hH B9 F9;go_wp2
      go_roundw
      case rel=>exact⟨lev + 1,by simp,hid (by have:=HLV.out; omega),hid (by have:=F9'.out; rwa [HUPL.out] at this)⟩
      case measure=>simp [RowKit.intOf]; omega
    ·as_aux_lemma=>
      have HUPB:=hid (show Pp.upto n P p l lev = Pp.upto n P p l (lev + 1) by
       rw [<- hUP];unfold Pp.lev1
       rw [if_neg (λh=>h.elim (λh2=>by omega) hw),List.append_nil])
      have HWH:=hid (λu hu=>by have:=hwh u hu; rwa [decide_eq_false (λh=>hw (hdec.1 h))] at this)
      clear hat hUP hway hdec hwh hw hpow hN2 hpp;have hlt:(lev:Int) < (n:Int):=by omega
      go_upto_region 5 with fail
      refine wp_region_lit ?_;iterate 5 (refine wW λK hK=>?_;go_simp;apply hK;clear hK K)
      refine wW λK hK=>?_;go_simp;go_at_call 54
      (first | rw [HWR.out] | rw [HNK.out])
      refine(HP.out _).mono ?_;rintro e w2 ⟨rfl,hw2⟩;subst w2;apply hK;clear hK K;refine wW λK hK=>?_;go_simp;rw [HQ.out];apply hK;clear hK K;refine wW λK hK=>?_;go_simp;apply hK;clear hK K
      go_upto_region 6 with fail
      refine wp_region_lit ?_;iterate 5 (refine wW λK hK=>?_;go_simp;apply hK;clear hK K)
      refine wLk 60 (.tmp 2) rfl (wa) (0) rfl (.agg RD) (run_loadVar_row wr wa 60 60 RD (0,0) _ HF.out.row Try.underlying60 rfl HRI.out) ?_
      simp only [Act.put,sA,sB,sC];iterate 2 (refine wW λK hK=>?_;go_simp;apply hK;clear hK K)
      refine wW λK hK=>?_;go_simp;go_at_call 55
      refine(HWH.out wr (HT.out.kept HF.out.kept (Nat.le_refl _))).mono ?_;rintro e w3 ⟨rfl,kz⟩;apply hK;clear hK K;iterate 2 (refine wW λK hK=>?_;go_simp;apply hK;clear hK K)
      replace HF:=hid (HF.out.step kz)
      clear kz c32;have c32:=hcell.out _ _ HF.out.row;go_wp2
      go_roundw
      case rel=>exact⟨lev + 1,by simp,hid (by have:=HLV.out; omega),hid (by have:=HF.out; rwa [HUPB.out] at this)⟩
      case measure=>simp [RowKit.intOf]; omega
theorem OwnF.stay2 {w w':World}{base:Nat}{v:Value}{L:Facts}(h:OwnF w base v L)(h1:∀ k,v.ownBlock = some k->w'.heap[k]? = w.heap[k]?)(h2:∀ (k:Nat) (cs:Array Value) (fr:Nat × Nat),w.heap[k]? = some (.cells cs 25 fr)->w'.heap[k]? = some (.cells cs 25 fr)):OwnF w' base v L:=by
 have own:∀ {b:Nat} {u:Value} {M:List (List UInt8)},Own w b u M->Own w' b u M:=fun {b u M} h=>by
  refine⟨h.1,h.2.1,?_⟩
  rcases h.2.2 with h3 | ⟨g,cap,cur,rfl,hb2,hh,rest⟩
  ·exact .inl h3
  ·exact .inr ⟨g,cap,cur,rfl,hb2,h2 _ _ _ hh,rest⟩
 obtain⟨ps,hl,ho,hp⟩:=h;refine⟨ps,hl,⟨ho.1,?_⟩,λi hi hpi=>⟨own (hp i hi hpi).1,own (hp i hi hpi).2⟩⟩
 rcases ho.2 with h3 | ⟨g,cap,cur,rfl,hb2,hh,rest⟩
 ·exact .inl h3
 ·exact .inr ⟨g,cap,cur,rfl,hb2,(h1 g rfl).trans hh,rest⟩
theorem OwnF.typ {w:World}{base:Nat}{v:Value}{L:Facts}(h:OwnF w base v L){k:Nat}(hk:v.ownBlock = some k):base<=k/\k < w.heap.size/\∃ cs,w.heap[k]? = some (.cells cs 35 (0,0)):=by
 obtain⟨ps,_,ho,_⟩:=h;exact⟨(ho.lt k hk).1,(ho.lt k hk).2,rowCells ho k hk⟩
theorem RowIs.types {w w':World}{rb bits:Nat}{sl:Value}{L:List Sd}(h:RowIs w rb bits sl L)(ht:Typ w sl)(hr:w'.heap[rb]? = w.heap[rb]?)(hs:∀ (k:Nat) (cs:Array Value) (fr:Nat × Nat),w.heap[k]? = some (.cells cs 101 fr)->w'.heap[k]? = some (.cells cs 101 fr))(hz:w.heap.size<=w'.heap.size):RowIs w' rb bits sl L:=by
 refine⟨hr.trans h.1,?_⟩;obtain⟨ad,g,o,c,rfl,h3,h4⟩:=h.2;refine⟨ad,g,o,c,rfl,λi hi=>?_,h4⟩
 obtain⟨rfl,a2,a3⟩:=h3 i hi;obtain⟨cs,fr,hh⟩:=ht g rfl;refine⟨rfl,Nat.lt_of_lt_of_le a2 hz,λj u hu=>?_⟩
 rw [World.cell?_of_block (w:=w) ((hs _ _ _ hh).trans hh.symm)];exact a3 j u hu
theorem Typ.types {w w':World}{sl:Value}(h:Typ w sl)(hs:∀ (k:Nat) (cs:Array Value) (fr:Nat × Nat),w.heap[k]? = some (.cells cs 101 fr)->w'.heap[k]? = some (.cells cs 101 fr)):Typ w' sl:=λk hk=>by
 obtain⟨cs,fr,hh⟩:=h k hk;exact⟨cs,fr,hs _ _ _ hh⟩
theorem GrowF.stayG {w w':World}{base:Nat}{v u:Value}{L:Facts}(h:GrowF v w w' u)(ho:OwnF w base v L):StayG 35 w w':=λk o hk hn=>by
 rw [h.1 k (lt_of_block hk) (λe=>?_)]
 ·exact hk
 ·obtain⟨_,_,cs,h3⟩:=ho.typ e
  rw [hk] at h3
  cases h3
  exact hn _ _ rfl
theorem inBk_grow {w w':World}{base bb n:Nat}{fs:Facts}{T T':Value}{P:List Nat}{b:Nat}(h:Bx.InBk w base bb fs n (λk=>T.ownBlock = some k))(ho:OwnI w b T P)(hg:w.grownBy w' T.ownBlock)(hn:T'.ownBlock = T.ownBlock\/T'.ownBlock = some w.heap.size):Bx.InBk w' base bb fs n (λk=>T'.ownBlock = some k):=by
 obtain⟨n',h1,S,h2,h3,h4⟩:=h;rw [h2] at h4
 have hk:∀ (k:Nat) (o:Obj),w.heap[k]? = some o->(∀ cs,o≠.cells cs 3 (0,0))->w'.heap[k]? = some o:=λk o hh hne=>(hg.block k (lt_of_block hh) (λe=>by
  obtain⟨cs,h5⟩:=ho.cellsAt k e.symm;rw [hh] at h5
  cases h5
  exact hne _ rfl)).trans hh
 have hm:∀ {i:Nat},(∃ es c,w.heap[i]? = some (.map es c))->w'.heap[i]? = w.heap[i]?:=fun {i} ⟨es,c,hh⟩=>by
  rw [hh];exact hk i _ hh (λcs e=>by cases e)
 have hrow:∀ o k,(S.val o).ownBlock = some k->T.ownBlock≠some k/\k < w.heap.size:=λo k h5=>⟨h4 o k h5,((h3.row o).lt k h5).2⟩
 have hX:∀ k,T'.ownBlock = some k->T.ownBlock = some k\/k = w.heap.size:=λk h5=>hn.elim (λe=>.inl (by rw [<- e]; exact h5)) (λe=>.inr (by rw [e] at h5; cases h5; rfl))
 refine⟨n',h1,{ S with X:=λk=>T'.ownBlock = some k },rfl,⟨hk _ _ h3.cells (λ_ e=>by cases e),h3.lowb,h3.lowa,h3.lown,h3.lowm,h3.an,h3.amm,h3.nmm,?_,h3.alike.same (hm h3.alike.map),h3.need.same (hm h3.need.map),h3.names.same (hm h3.names.map),λo=>(h3.row o).stay λi hi=>?_,h3.sep,h3.free,h3.needed,h3.same,h3.found,h3.few⟩,λo k h5 h6=>?_⟩
 ·have hf:=h3.facts
  rw [h2] at hf
  have hf2:OwnB w base (λk=>T'.ownBlock = some k) S.fv fs:=by
   have:=(hf.freshOr (Y:=λk=>k = w.heap.size) (λk hk=>by omega)).less (Y:=λk=>T'.ownBlock = some k) (λk hk=>hX k hk)
   exact this
  refine hf2.stay (λi hi=>?_) (λi cs fr hh=>hk _ _ hh (λ_ e=>by cases e))
  obtain⟨ps,_,ho2,_⟩:=hf2;obtain⟨cs,hh⟩:=rowCells ho2 i hi;rw [hh];exact hk _ _ hh (λ_ e=>by cases e)
 ·have h5:(S.val o).ownBlock = some i:=by cases o <;> exact hi
  exact hg.block i (hrow o i h5).2 (λe=>(hrow o i h5).1 e.symm)
 ·have h7:(S.val o).ownBlock = some k:=by cases o <;> exact h5
  rcases hX k h6 with h8 | h8
  ·exact(hrow o k h7).1 h8
  ·have:=(hrow o k h7).2
   omega
structure Nl (w0 wr:World) (l:List UInt8) (n rb mb wa bb b2 nn:Nat) (fD fB:Facts) (R P:List Nat) (T fv sl:Value):Prop where
 seed:wr.heap[wa]? = some (.cells (bcells l).toArray 26 (0,0))
 row:RowIs wr rb n sl (Pp.low n R n ⟨0,0,l⟩)
 typ:Typ wr sl
 m:wr.heap[mb]? = some (.cells (refRow l n T) 60 (0,0))
 own:OwnI wr (mb + 1) T P
 fown:OwnF wr (mb + 1) fv fD
 bk:Bx.InBk wr b2 bb fB nn (λk=>T.ownBlock = some k)
 kept:Kept w0.heap.size w0.heap.size w0 wr
 lob:w0.heap.size<=b2
 lor:b2<=rb
 lt:rb < mb
 wam:wa < mb
 w0a:w0.heap.size<=wa
variable {w0 wr w':World} {l:List UInt8} {n rb mb wa bb b2 nn nn':Nat} {fD fB fD' fB':Facts} {R R' P:List Nat} {T fv sl sl':Value}
theorem Nl.mlt (h:Nl w0 wr l n rb mb wa bb b2 nn fD fB R P T fv sl):mb < wr.heap.size:=lt_of_block h.m
theorem Nl.base (h:Nl w0 wr l n rb mb wa bb b2 nn fD fB R P T fv sl):b2<=wr.heap.size:=by have:=h.mlt; have:=h.lor; have:=h.lt; omega
theorem Nl.xlt (h:Nl w0 wr l n rb mb wa bb b2 nn fD fB R P T fv sl):∀ k,T.ownBlock = some k->k < wr.heap.size:=λk hk=>(h.own.lt k hk).2
theorem Nl.wrb (h:Nl w0 wr l n rb mb wa bb b2 nn fD fB R P T fv sl):wa≠rb:=λe=>by
 have h1:=h.seed;have h2:=h.row.1;rw [e] at h1;rw [h1] at h2;injection h2 with h2
 injection h2 with _ h3 _
 exact absurd h3 (by decide)
theorem Nl.step (h:Nl w0 wr l n rb mb wa bb b2 nn fD fB R P T fv sl)(k:Kept wr.heap.size wr.heap.size wr w'):Nl w0 w' l n rb mb wa bb b2 nn fD fB R P T fv sl where
 seed:=(k.block _ (lt_of_block h.seed) (Nat.ne_of_lt (lt_of_block h.seed))).trans h.seed
 row:=h.row.kept k
 typ:=h.typ.kept k
 m:=(k.block _ (lt_of_block h.m) (Nat.ne_of_lt (lt_of_block h.m))).trans h.m
 own:=h.own.stay (λb hb=>by have:=(h.own.lt b hb).2; exact k.block b this (Nat.ne_of_lt this))
 fown:=h.fown.kept k (Nat.le_refl _)
 bk:=h.bk.kept k
 kept:=h.kept.next1 k
 lob:=h.lob
 lor:=h.lor
 lt:=h.lt
 wam:=h.wam
 w0a:=h.w0a
theorem Nl.look (h:Nl w0 wr l n rb mb wa bb b2 nn fD fB R P T fv sl)(q:Bx.InBk w' b2 bb fB' nn' (λk=>T.ownBlock = some k))(f:Bx.BkFr b2 (λk=>T.ownBlock = some k) wr w'):Nl w0 w' l n rb mb wa bb b2 nn' fD fB' R P T fv sl where
 seed:=f.oth _ _ _ _ h.seed (by decide) (by decide) (by decide)
 row:=h.row.bk h.typ f.old
 typ:=h.typ.bk f.old
 m:=f.oth _ _ _ _ h.m (by decide) (by decide) (by decide)
 own:=h.own.stay (λb hb=>by
  obtain⟨cs,hh⟩:=h.own.cellsAt b hb
  exact(f.ints _ _ _ hb hh).trans hh.symm)
 fown:=h.fown.bk f.old
 bk:=q
 kept:=h.kept.trans ⟨f.kept.os,f.kept.tape,f.kept.output,f.kept.size,λk hk _=>f.kept.block k (by have:=h.lob; omega) (by have:=h.lob; omega)⟩
 lob:=h.lob
 lor:=h.lor
 lt:=h.lt
 wam:=h.wam
 w0a:=h.w0a
theorem Nl.take (h:Nl w0 wr l n rb mb wa bb b2 nn fD fB R P T fv sl)(hR:RowIs w' rb n sl' (Pp.low n R' n ⟨0,0,l⟩))(q:Bx.InBk w' b2 bb fB' nn' (λk=>T.ownBlock = some k))(f:Bx.BkBut b2 (λk=>T.ownBlock = some k) rb wr w')(hn:NearT wr w' sl sl'):Nl w0 w' l n rb mb wa bb b2 nn' fD fB' R' P T fv sl' where
 seed:=f.oth _ _ _ _ h.wrb h.seed (by decide) (by decide) (by decide)
 row:=hR
 typ:=λk hk=>by
  rcases hn k hk with h1 | ⟨_,h2⟩
  ·obtain⟨cs,fr,hh⟩:=h.typ k h1
   refine⟨cs,fr,f.oth _ _ _ _ (λe=>?_) hh (by decide) (by decide) (by decide)⟩
   have h2:=h.row.1;rw [<- e,hh] at h2
   cases h2
  ·exact h2
 m:=f.oth _ _ _ _ (Nat.ne_of_gt h.lt) h.m (by decide) (by decide) (by decide)
 own:=h.own.stay (λb hb=>by
  obtain⟨cs,hh⟩:=h.own.cellsAt b hb
  exact(f.ints _ _ _ hb (by have:=(h.own.lt b hb).1; have:=h.lt; omega) hh).trans hh.symm)
 fown:=h.fown.stay2 (λk hk=>by
  obtain⟨h1,_,cs,hh⟩:=h.fown.typ hk
  exact(f.oth _ _ _ _ (by have:=h.lt; omega) hh (by decide) (by decide) (by decide)).trans hh.symm) (λk cs fr hh=>f.oth _ _ _ _ (λe=>by
   have h2:=h.row.1;rw [<- e,hh] at h2
   cases h2) hh (by decide) (by decide) (by decide))
 bk:=q
 kept:=h.kept.trans ⟨f.kept.os,f.kept.tape,f.kept.output,f.kept.size,λk hk _=>f.kept.block k (by have:=h.lob; omega) (by have:=h.lob; omega)⟩
 lob:=h.lob
 lor:=h.lor
 lt:=h.lt
 wam:=h.wam
 w0a:=h.w0a
theorem Nl.note {u:Value}(h:Nl w0 wr l n rb mb wa bb b2 nn fD fB R P T fv sl)(ho:OwnF w' (mb + 1) u fD')(k:Kept (mb + 1) (mb + 1) wr w')(g:GrowF fv wr w' u):Nl w0 w' l n rb mb wa bb b2 nn fD' fB R P T u sl:=by
 have hs:=g.stayG h.fown
 exact {
  seed:=hs.cells h.seed (by decide)
  row:=h.row.types h.typ ((hs.cells h.row.1 (by decide)).trans h.row.1.symm) (λk cs fr hh=>hs.cells hh (by decide)) k.size
  typ:=h.typ.types (λk cs fr hh=>hs.cells hh (by decide))
  m:=hs.cells h.m (by decide)
  own:=h.own.stay (λb hb=>by
   obtain⟨cs,hh⟩:=h.own.cellsAt b hb
   exact(hs.cells hh (by decide)).trans hh.symm)
  fown:=ho
  bk:=h.bk.stayG hs (by decide) (by decide) (by decide) (by decide)
  kept:=h.kept.trans ⟨k.os,k.tape,k.output,k.size,λi hi _=>k.block i (by have:=h.w0a; have:=h.wam; omega) (by have:=h.w0a; have:=h.wam; omega)⟩
  lob:=h.lob
  lor:=h.lor
  lt:=h.lt
  wam:=h.wam
  w0a:=h.w0a }
theorem Nl.more {p:Nat}{T':Value}(h:Nl w0 wr l n rb mb wa bb b2 nn fD fB R P T fv sl)(hl:l.length = 32)(ho:OwnI w' (mb + 1) T' (P ++ [p]))(hg:wr.grownBy w' T.ownBlock)(hb:T'.ownBlock = T.ownBlock\/T'.ownBlock = some wr.heap.size):Nl w0 (w'.setCell ⟨mb,33,none⟩ T') l n rb mb wa bb b2 nn fD fB R (P ++ [p]) T' fv sl:=by
 have hTne:∀ b,b<=mb->some b≠T.ownBlock:=λb hbm e=>by have:=(h.own.lt b e.symm).1; omega
 have hm:=(hg.block mb (lt_of_block h.m) (hTne mb (Nat.le_refl _))).trans h.m;have hmlt:=lt_of_block h.m
 have hki:∀ (k:Nat) (o:Obj),wr.heap[k]? = some o->(∀ cs,o≠.cells cs 3 (0,0))->k≠mb->(w'.setCell ⟨mb,33,none⟩ T').heap[k]? = some o:=λk o hh hne hk=>by
  rw [setCell_other _ _ _ _ _ hk,hg.block k (lt_of_block hh) (λe=>?_)]
  ·exact hh
  ·obtain⟨cs,h5⟩:=h.own.cellsAt k e.symm
   rw [hh] at h5
   cases h5
   exact hne _ rfl
 have hmb:∀ {k:Nat} {cs:Array Value} {t:TypeId} {fr:Nat × Nat},wr.heap[k]? = some (.cells cs t fr)->t≠60->k≠mb:=fun {k cs t fr} hh ht e=>by
  have h2:=h.m;rw [<- e,hh] at h2
  cases h2
  exact ht rfl
 have hsz:(w'.setCell ⟨mb,33,none⟩ T').heap.size = w'.heap.size:=by simp [World.setCell]
 have hks:∀ (k:Nat) (cs:Array Value) (fr:Nat × Nat),wr.heap[k]? = some (.cells cs 101 fr)->(w'.setCell ⟨mb,33,none⟩ T').heap[k]? = some (.cells cs 101 fr):=λk cs fr hh=>hki _ _ hh (λ_ e=>by cases e) (hmb hh (by decide))
 exact {
  seed:=hki _ _ h.seed (λ_ e=>by cases e) (hmb h.seed (by decide))
  row:=h.row.types h.typ ((hki _ _ h.row.1 (λ_ e=>by cases e) (hmb h.row.1 (by decide))).trans h.row.1.symm) hks (by rw [hsz]; exact hg.size)
  typ:=h.typ.types hks
  m:=by
   rw [refRow] at hm;rw [cells_set hm 33 T',refRow_set hl]
  own:=ho.stay (λb hb2=>setCell_other _ _ _ _ _ (by have:=(ho.lt b hb2).1; omega))
  fown:=h.fown.stay2 (λk hk=>by
   obtain⟨h1,_,cs,hh⟩:=h.fown.typ hk
   exact(hki _ _ hh (λ_ e=>by cases e) (by omega)).trans hh.symm) (λk cs fr hh=>hki _ _ hh (λ_ e=>by cases e) (hmb hh (by decide)))
  bk:=(inBk_grow h.bk h.own hg hb).stayG (T:=60) (λk o hk hn=>by
   rw [setCell_other _ _ _ _ _ (λe=>?_)]
   ·exact hk
   ·rw [e,hm] at hk
    cases hk
    exact hn _ _ rfl) (by decide) (by decide) (by decide) (by decide)
  kept:=h.kept.trans (Kept.set ⟨hg.os,hg.tape,hg.output,hg.size,λk hk _=>hg.block k (Nat.lt_of_lt_of_le hk h.kept.size) (hTne k (by have:=h.w0a; have:=h.wam; omega))⟩ (.inr (by have:=h.w0a; have:=h.wam; omega)) 33 T')
  lob:=h.lob
  lor:=h.lor
  lt:=h.lt
  wam:=h.wam
  w0a:=h.w0a }
theorem append_hashB (w:World)(base:Nat)(v:Value)(M:List (List UInt8))(hown:OwnH w base v M)(hbase:base<=w.heap.size)(b c:Nat)(x:List UInt8)(hx:x.length = 32)(hb:w.rangeAt b 0 (bcells x))(hl:M.length < 1073741824):
  ∃ v' w',(Builtin.append_ #[23,23] 23 #[v,.slice (some ⟨b,0,none⟩) 1 c]).run Try.prog w = .ok v' w'/\OwnH w' base v' (M ++ [x])/\w.grownBy w' v.ownBlock/\(v'.ownBlock = v.ownBlock\/v'.ownBlock = some w.heap.size):=by
 obtain⟨i,z,hi,hz,hzs,hs,hby⟩:=hash_info;obtain⟨h32,ho⟩:=hown
 obtain⟨v',w',h1,h2,h3,_,h4⟩:=run_append_own_at (P:=Try.prog) w base 23 23 26 i z 32 32 Try.underlying23 hi hz hs hby hzs (by decide) v M.length (bcells M.flatten) ho ⟨b,0,none⟩ 1 c (bcells x)
  (by rw [bcells_length,hx]) (λj u hu=>by
   rw [Addr.add_lit]
   exact hb j u hu)
  (bcells_one x) (by unfold maxLen; omega) (by omega) hbase
 rw [<- bcells_append] at h2;refine⟨v',w',h1,⟨λy hy=>?_,?_⟩,h3,h4⟩
 ·rcases List.mem_append.1 hy with h | h
  ·exact h32 y h
  ·rw [List.mem_singleton] at h
   rw [h,hx]
 ·rw [List.length_append,List.length_singleton,List.flatten_append]
  simpa using h2
theorem OwnH.cellsAt {w:World}{base:Nat}{v:Value}{M:List (List UInt8)}(h:OwnH w base v M)(k:Nat)(hk:v.ownBlock = some k):∃ cs,w.heap[k]? = some (.cells cs 26 (0,0)):=rowCells h.2 k hk
theorem inBk_growX {w w':World}{base bb n:Nat}{fs:Facts}{X X':Nat->Prop}{row:Option Nat}(h:Bx.InBk w base bb fs n X)(hg:w.grownBy w' row)(hr:∀ k,row = some k->X k/\((∃ cs,w.heap[k]? = some (.cells cs 3 (0,0)))\/∃ cs,w.heap[k]? = some (.cells cs 26 (0,0))))(hX:∀ k,X' k->X k\/k = w.heap.size):Bx.InBk w' base bb fs n X':=by
 obtain⟨n',h1,S,h2,h3,h4⟩:=h;rw [h2] at h4;have hk:∀ (k:Nat) (o:Obj),w.heap[k]? = some o->some k≠row->w'.heap[k]? = some o:=λk o hh hne=>(hg.block k (lt_of_block hh) hne).trans hh
 have hm:∀ {i:Nat},(∃ es c,w.heap[i]? = some (.map es c))->w'.heap[i]? = w.heap[i]?:=fun {i} ⟨es,c,hh⟩=>by
  rw [hh];refine hk i _ hh (λe=>?_)
  obtain⟨_,⟨cs,h5⟩ | ⟨cs,h5⟩⟩:=hr i e.symm <;> rw [hh] at h5 <;> cases h5
 have hrow:∀ o k,(S.val o).ownBlock = some k->¬ X k/\k < w.heap.size:=λo k h5=>⟨h4 o k h5,((h3.row o).lt k h5).2⟩
 refine⟨n',h1,{ S with X:=X' },rfl,⟨hk _ _ h3.cells (λe=>?_),h3.lowb,h3.lowa,h3.lown,h3.lowm,h3.an,h3.amm,h3.nmm,?_,h3.alike.same (hm h3.alike.map),h3.need.same (hm h3.need.map),h3.names.same (hm h3.names.map),λo=>(h3.row o).stay λi hi=>?_,h3.sep,h3.free,h3.needed,h3.same,h3.found,h3.few⟩,λo k h5 h6=>?_⟩
 ·have h9:=h3.cells
  obtain⟨_,⟨cs,h5⟩ | ⟨cs,h5⟩⟩:=hr bb e.symm
  ·rw [h9] at h5
   injection h5 with h5
   injection h5 with _ h6 _
   exact absurd h6 (by decide)
  ·rw [h9] at h5
   injection h5 with h5
   injection h5 with _ h6 _
   exact absurd h6 (by decide)
 ·have hf:=h3.facts
  rw [h2] at hf;have hf2:OwnB w base (λk=>X k\/k = w.heap.size) S.fv fs:=hf.freshOr (Y:=λk=>k = w.heap.size) (λk hk=>by omega)
  refine OwnB.less (hf2.stayX (λi hi=>?_) (λi cs fr hx hh=>hk _ _ hh (λe=>hx (.inl (hr i e.symm).1)))) (λk hk=>hX k hk)
  obtain⟨ps,_,ho2,_⟩:=hf2;obtain⟨cs,hh⟩:=rowCells ho2 i hi;rw [hh];refine hk _ _ hh (λe=>?_)
  obtain⟨_,⟨cs,h5⟩ | ⟨cs,h5⟩⟩:=hr i e.symm
  ·rw [hh] at h5
   injection h5 with h5
   injection h5 with _ h6 _
   exact absurd h6 (by decide)
  ·rw [hh] at h5
   injection h5 with h5
   injection h5 with _ h6 _
   exact absurd h6 (by decide)
 ·have h5:(S.val o).ownBlock = some i:=by cases o <;> exact hi
  exact hg.block i (hrow o i h5).2 (λe=>(hrow o i h5).1 (hr i e.symm).1)
 ·have h7:(S.val o).ownBlock = some k:=by cases o <;> exact h5
  rcases hX k h6 with h8 | h8
  ·exact(hrow o k h7).1 h8
  ·have:=(hrow o k h7).2
   omega
structure Ne (w0 wr:World) (l:List UInt8) (n rb mb wa bb b2 nn:Nat) (fB:Facts) (R P:List Nat) (T kv sl:Value) (K:List (List UInt8)):Prop where
 seed:wr.heap[wa]? = some (.cells (bcells l).toArray 26 (0,0))
 row:RowIs wr rb n sl (Pp.low n R n ⟨0,0,l⟩)
 typ:Typ wr sl
 m:wr.heap[mb]? = some (.cells (refRow l n T) 60 (0,0))
 own:OwnI wr (mb + 1) T P
 key:OwnH wr (mb + 1) kv K
 bk:Bx.InBk wr b2 bb fB nn (λk=>T.ownBlock = some k\/kv.ownBlock = some k)
 kept:Kept w0.heap.size w0.heap.size w0 wr
 lob:w0.heap.size<=b2
 lor:b2<=rb
 lt:rb < mb
 wam:wa < mb
 w0a:w0.heap.size<=wa
section
variable {w0 wr w':World} {l:List UInt8} {n rb mb wa bb b2 nn nn':Nat} {fB fB':Facts} {R R' P:List Nat} {T kv sl sl':Value} {K:List (List UInt8)}
theorem Ne.mlt (h:Ne w0 wr l n rb mb wa bb b2 nn fB R P T kv sl K):mb < wr.heap.size:=lt_of_block h.m
theorem Ne.base (h:Ne w0 wr l n rb mb wa bb b2 nn fB R P T kv sl K):b2<=wr.heap.size:=by have:=h.mlt; have:=h.lor; have:=h.lt; omega
theorem Ne.xlt (h:Ne w0 wr l n rb mb wa bb b2 nn fB R P T kv sl K):∀ k,(T.ownBlock = some k\/kv.ownBlock = some k)->k < wr.heap.size:=λk hk=>hk.elim (λe=>(h.own.lt k e).2) (λe=>(h.key.low k e).2)
theorem Ne.wrb (h:Ne w0 wr l n rb mb wa bb b2 nn fB R P T kv sl K):wa≠rb:=λe=>by
 have h1:=h.seed;have h2:=h.row.1;rw [e] at h1;rw [h1] at h2;injection h2 with h2
 injection h2 with _ h3 _
 exact absurd h3 (by decide)
theorem Ne.step (h:Ne w0 wr l n rb mb wa bb b2 nn fB R P T kv sl K)(k:Kept wr.heap.size wr.heap.size wr w'):Ne w0 w' l n rb mb wa bb b2 nn fB R P T kv sl K where
 seed:=(k.block _ (lt_of_block h.seed) (Nat.ne_of_lt (lt_of_block h.seed))).trans h.seed
 row:=h.row.kept k
 typ:=h.typ.kept k
 m:=(k.block _ (lt_of_block h.m) (Nat.ne_of_lt (lt_of_block h.m))).trans h.m
 own:=h.own.stay (λb hb=>by have:=(h.own.lt b hb).2; exact k.block b this (Nat.ne_of_lt this))
 key:=h.key.kept k (Nat.le_refl _)
 bk:=h.bk.kept k
 kept:=h.kept.next1 k
 lob:=h.lob
 lor:=h.lor
 lt:=h.lt
 wam:=h.wam
 w0a:=h.w0a
theorem Ne.take (h:Ne w0 wr l n rb mb wa bb b2 nn fB R P T kv sl K)(hR:RowIs w' rb n sl' (Pp.low n R' n ⟨0,0,l⟩))(q:Bx.InBk w' b2 bb fB' nn' (λk=>T.ownBlock = some k\/kv.ownBlock = some k))(f:Bx.BkBut b2 (λk=>T.ownBlock = some k\/kv.ownBlock = some k) rb wr w')(hn:NearT wr w' sl sl'):Ne w0 w' l n rb mb wa bb b2 nn' fB' R' P T kv sl' K where
 seed:=f.oth _ _ _ _ h.wrb h.seed (by decide) (by decide) (by decide)
 row:=hR
 typ:=λk hk=>by
  rcases hn k hk with h1 | ⟨_,h2⟩
  ·obtain⟨cs,fr,hh⟩:=h.typ k h1
   refine⟨cs,fr,f.oth _ _ _ _ (λe=>?_) hh (by decide) (by decide) (by decide)⟩
   have h2:=h.row.1;rw [<- e,hh] at h2
   cases h2
  ·exact h2
 m:=f.oth _ _ _ _ (Nat.ne_of_gt h.lt) h.m (by decide) (by decide) (by decide)
 own:=h.own.stay (λb hb=>by
  obtain⟨cs,hh⟩:=h.own.cellsAt b hb
  exact(f.ints _ _ _ (.inl hb) (by have:=(h.own.lt b hb).1; have:=h.lt; omega) hh).trans hh.symm)
 key:=h.key.stay (λk cs fr hh=>f.oth _ _ _ _ (λe=>by
   have h2:=h.row.1;rw [<- e,hh] at h2
   cases h2) hh (by decide) (by decide) (by decide))
 bk:=q
 kept:=h.kept.trans ⟨f.kept.os,f.kept.tape,f.kept.output,f.kept.size,λk hk _=>f.kept.block k (by have:=h.lob; omega) (by have:=h.lob; omega)⟩
 lob:=h.lob
 lor:=h.lor
 lt:=h.lt
 wam:=h.wam
 w0a:=h.w0a
theorem Ne.keyed {kv':Value}{x:List UInt8}(h:Ne w0 wr l n rb mb wa bb b2 nn fB R P T kv sl K)(ho:OwnH w' (mb + 1) kv' (K ++ [x]))(hg:wr.grownBy w' kv.ownBlock)(hb:kv'.ownBlock = kv.ownBlock\/kv'.ownBlock = some wr.heap.size):Ne w0 w' l n rb mb wa bb b2 nn fB R P T kv' sl (K ++ [x]):=by
 have hne:∀ b,b<=mb->some b≠kv.ownBlock:=λb hbm e=>by have:=(h.key.low b e.symm).1; omega
 have hki:∀ (k:Nat) (o:Obj),wr.heap[k]? = some o->(∀ cs,o≠.cells cs 26 (0,0))->w'.heap[k]? = some o:=λk o hh h9=>by
  rw [hg.block k (lt_of_block hh) (λe=>?_)]
  ·exact hh
  ·obtain⟨cs,h5⟩:=h.key.cellsAt k e.symm
   rw [hh] at h5
   cases h5
   exact h9 _ rfl
 have hks:∀ (k:Nat) (cs:Array Value) (fr:Nat × Nat),wr.heap[k]? = some (.cells cs 101 fr)->w'.heap[k]? = some (.cells cs 101 fr):=λk cs fr hh=>hki _ _ hh (λ_ e=>by cases e)
 exact {
  seed:=(hg.block wa (lt_of_block h.seed) (hne wa (Nat.le_of_lt h.wam))).trans h.seed
  row:=h.row.types h.typ ((hki _ _ h.row.1 (λ_ e=>by cases e)).trans h.row.1.symm) hks hg.size
  typ:=h.typ.types hks
  m:=hki _ _ h.m (λ_ e=>by cases e)
  own:=h.own.stay (λb hb2=>by
   obtain⟨cs,hh⟩:=h.own.cellsAt b hb2
   exact(hki _ _ hh (λ_ e=>by cases e)).trans hh.symm)
  key:=ho
  bk:=inBk_growX h.bk hg (λk e=>⟨.inr e,.inr (h.key.cellsAt k e)⟩) (λk hk=>hk.elim (λe=>.inl (.inl e)) (λe=>hb.elim (λe2=>.inl (.inr (e2 ▸ e))) (λe2=>.inr (by rw [e] at e2; exact Option.some.inj e2))))
  kept:=h.kept.trans ⟨hg.os,hg.tape,hg.output,hg.size,λk hk _=>hg.block k (Nat.lt_of_lt_of_le hk h.kept.size) (hne k (by have:=h.w0a; have:=h.wam; omega))⟩
  lob:=h.lob
  lor:=h.lor
  lt:=h.lt
  wam:=h.wam
  w0a:=h.w0a }
theorem Ne.more {p:Nat}{T':Value}(h:Ne w0 wr l n rb mb wa bb b2 nn fB R P T kv sl K)(hl:l.length = 32)(ho:OwnI w' (mb + 1) T' (P ++ [p]))(hg:wr.grownBy w' T.ownBlock)(hb:T'.ownBlock = T.ownBlock\/T'.ownBlock = some wr.heap.size):Ne w0 (w'.setCell ⟨mb,33,none⟩ T') l n rb mb wa bb b2 nn fB R (P ++ [p]) T' kv sl K:=by
 have hTne:∀ b,b<=mb->some b≠T.ownBlock:=λb hbm e=>by have:=(h.own.lt b e.symm).1; omega
 have hm:=(hg.block mb (lt_of_block h.m) (hTne mb (Nat.le_refl _))).trans h.m;have hmlt:=lt_of_block h.m
 have hki:∀ (k:Nat) (o:Obj),wr.heap[k]? = some o->(∀ cs,o≠.cells cs 3 (0,0))->k≠mb->(w'.setCell ⟨mb,33,none⟩ T').heap[k]? = some o:=λk o hh hne hk=>by
  rw [setCell_other _ _ _ _ _ hk,hg.block k (lt_of_block hh) (λe=>?_)]
  ·exact hh
  ·obtain⟨cs,h5⟩:=h.own.cellsAt k e.symm
   rw [hh] at h5
   cases h5
   exact hne _ rfl
 have hmb:∀ {k:Nat} {cs:Array Value} {t:TypeId} {fr:Nat × Nat},wr.heap[k]? = some (.cells cs t fr)->t≠60->k≠mb:=fun {k cs t fr} hh ht e=>by
  have h2:=h.m;rw [<- e,hh] at h2
  cases h2
  exact ht rfl
 have hsz:(w'.setCell ⟨mb,33,none⟩ T').heap.size = w'.heap.size:=by simp [World.setCell]
 have hks:∀ (k:Nat) (cs:Array Value) (fr:Nat × Nat),wr.heap[k]? = some (.cells cs 101 fr)->(w'.setCell ⟨mb,33,none⟩ T').heap[k]? = some (.cells cs 101 fr):=λk cs fr hh=>hki _ _ hh (λ_ e=>by cases e) (hmb hh (by decide))
 exact {
  seed:=hki _ _ h.seed (λ_ e=>by cases e) (hmb h.seed (by decide))
  row:=h.row.types h.typ ((hki _ _ h.row.1 (λ_ e=>by cases e) (hmb h.row.1 (by decide))).trans h.row.1.symm) hks (by rw [hsz]; exact hg.size)
  typ:=h.typ.types hks
  m:=by
   rw [refRow] at hm;rw [cells_set hm 33 T',refRow_set hl]
  own:=ho.stay (λb hb2=>setCell_other _ _ _ _ _ (by have:=(ho.lt b hb2).1; omega))
  key:=h.key.stay (λk cs fr hh=>hki _ _ hh (λ_ e=>by cases e) (hmb hh (by decide)))
  bk:=(inBk_growX (X':=λk=>T'.ownBlock = some k\/kv.ownBlock = some k) h.bk hg (λk e=>⟨.inl e,.inl (h.own.cellsAt k e)⟩) (λk hk=>hk.elim (λe=>hb.elim (λe2=>.inl (.inl (e2 ▸ e))) (λe2=>.inr (by rw [e] at e2; exact Option.some.inj e2))) (λe=>.inl (.inr e)))).stayG (T:=60) (λk o hk hn=>by
   rw [setCell_other _ _ _ _ _ (λe=>?_)]
   ·exact hk
   ·rw [e,hm] at hk
    cases hk
    exact hn _ _ rfl) (by decide) (by decide) (by decide) (by decide)
  kept:=h.kept.trans (Kept.set ⟨hg.os,hg.tape,hg.output,hg.size,λk hk _=>hg.block k (Nat.lt_of_lt_of_le hk h.kept.size) (hTne k (by have:=h.w0a; have:=h.wam; omega))⟩ (.inr (by have:=h.w0a; have:=h.wam; omega)) 33 T')
  lob:=h.lob
  lor:=h.lor
  lt:=h.lt
  wam:=h.wam
  w0a:=h.w0a }
theorem Ne.note {fv u:Value}{fD:Facts}(h:Ne w0 wr l n rb mb wa bb b2 nn fB R P T kv sl K)(hF:OwnF wr (mb + 1) fv fD)(k:Kept (mb + 1) (mb + 1) wr w')(g:GrowF fv wr w' u):Ne w0 w' l n rb mb wa bb b2 nn fB R P T kv sl K:=by
 have hs:=g.stayG hF
 exact {
  seed:=hs.cells h.seed (by decide)
  row:=h.row.types h.typ ((hs.cells h.row.1 (by decide)).trans h.row.1.symm) (λk cs fr hh=>hs.cells hh (by decide)) k.size
  typ:=h.typ.types (λk cs fr hh=>hs.cells hh (by decide))
  m:=hs.cells h.m (by decide)
  own:=h.own.stay (λb hb=>by
   obtain⟨cs,hh⟩:=h.own.cellsAt b hb
   exact(hs.cells hh (by decide)).trans hh.symm)
  key:=h.key.stay (λk cs fr hh=>hs.cells hh (by decide))
  bk:=h.bk.stayG hs (by decide) (by decide) (by decide) (by decide)
  kept:=h.kept.trans ⟨k.os,k.tape,k.output,k.size,λi hi _=>k.block i (by have:=h.w0a; have:=h.wam; omega) (by have:=h.w0a; have:=h.wam; omega)⟩
  lob:=h.lob
  lor:=h.lor
  lt:=h.lt
  wam:=h.wam
  w0a:=h.w0a }
end
namespace Pp
def facts (n:Nat)(l:List UInt8):List Nat->List Nat->Facts->Facts
 | _,[],fs=>fs
 | q,p :: r,fs=>facts n l (q ++ [p]) r (Pp.noted n q l (p:Int) fs)
def factsOf (n:Nat)(l:List UInt8)(P:List Nat):Facts:=facts n l [] P []
theorem facts_snoc (n:Nat)(l:List UInt8)(p:Nat):∀ (r q:List Nat) (fs:Facts),facts n l q (r ++ [p]) fs = Pp.noted n (q ++ r) l (p:Int) (facts n l q r fs)
 | [],q,fs=>by simp [facts]
 | a :: r,q,fs=>by
  show facts n l (q ++ [a]) (r ++ [p]) _ = _;rw [facts_snoc n l p r];simp [facts]
theorem factsOf_snoc (n:Nat)(l:List UInt8)(P:List Nat)(p:Nat):factsOf n l (P ++ [p]) = Pp.noted n P l (p:Int) (factsOf n l P):=by
 rw [factsOf,facts_snoc]
 rfl
def Apart (n:Nat)(P:List Nat):Prop:=∀ k (h:k < P.length),P[k] < 2 ^ n/\P[k]∉P.take k
theorem Apart.snoc {n p:Nat}{P:List Nat}(h:Apart n P)(hp:p < 2 ^ n)(hm:p∉P):Apart n (P ++ [p]):=λk hk=>by
 rw [List.length_append,List.length_singleton] at hk
 by_cases e:k < P.length
 ·rw [List.getElem_append_left e,List.take_append_of_le_length (Nat.le_of_lt e)]
  exact h k e
 ·obtain rfl:k = P.length:=by omega
  simp only [List.getElem_concat_length,List.take_left'];exact⟨hp,hm⟩
theorem Apart.init {n:Nat}{P:List Nat}{p:Nat}(h:Apart n (P ++ [p])):Apart n P/\p < 2 ^ n/\p∉P:=by
 refine⟨λk hk=>?_,?_⟩
 ·have h9:=h k (by rw [List.length_append]; omega)
  rwa [List.getElem_append_left hk,List.take_append_of_le_length (Nat.le_of_lt hk)] at h9
 ·have h9:=h P.length (by simp)
  simpa using h9
theorem out_ex (n:Nat)(P:List Nat)(l:List UInt8)(pl:Int)(fs:Facts):∃ k er P',Out n P l pl k er P'/\k.length = 32/\((er = 0/\∃ p:Nat,pl = (p:Int)/\p < 2 ^ n/\p∉P/\P' = P ++ [p])\/((er == (0:Int)) = false/\P' = P/\noted n P l pl fs = fs)):=by
 by_cases h:pl < 0\/((2 ^ n:Nat):Int)<=pl
 ·exact⟨z32,1,P,.out h,rfl,.inr ⟨rfl,rfl,noted_out n P l pl fs h⟩⟩
 ·obtain⟨p,rfl⟩:∃ p:Nat,pl = (p:Int):=⟨pl.toNat,by omega⟩
  have hp:p < 2 ^ n:=by omega
  by_cases hm:p∈P
  ·exact⟨z32,10,P,.gone p rfl hp hm,rfl,.inr ⟨rfl,rfl,noted_gone n P l p fs hm⟩⟩
  ·exact⟨_,0,_,.fresh p rfl hp hm,sum_length _,.inl ⟨rfl,p,rfl,hp,hm,rfl⟩⟩
theorem factsOf_small (n:Nat)(l:List UInt8)(hl:l.length = 32)(hn:n<=8):∀ (P:List Nat),Apart n P->(factsOf n l P).length<=9 * P.length/\∀ g∈factsOf n l P,g.1.length<=2/\g.2.length<=2:=by
 intro P
 rcases List.eq_nil_or_concat P with rfl | ⟨Q,p,rfl⟩
 ·exact λ_=>⟨Nat.zero_le _,λ_ h=>nomatch h⟩
 ·intro h
  rw [List.concat_eq_append] at h |-;obtain⟨h1,h2,h3⟩:=h.init;have ih:=factsOf_small n l hl hn Q h1;rw [factsOf_snoc,noted_fresh n Q l p _ h2 h3];refine⟨?_,λg hg=>?_⟩
  ·have h4:=Pm.fold_length (upto n Q p l (n + 1)) (factsOf n l Q)
   have h5:=upto_length n Q p l (n + 1);rw [List.length_append,List.length_singleton]
   omega
  ·rcases Pm.fold_mem g _ _ hg with h9 | h9
   ·exact ih.2 g h9
   ·obtain⟨a1,a2,a3,_⟩:=upto_small n Q p l hl (n + 1) g h9
    omega
 termination_by P=>P.length
 decreasing_by simp_all
end Pp
end Go.Proofs.Ytanfnafiofkihaa
