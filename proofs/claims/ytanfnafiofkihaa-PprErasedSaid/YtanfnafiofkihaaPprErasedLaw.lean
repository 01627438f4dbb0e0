/-
 The statement PprErased: its walk.
-/
import Derived.Test.YtanfnafiofkihaaPprErasedMem2
import Derived.Test.YtanfnafiofkihaaQE
import Derived.Test.YtanfnafiofkihaaGS
import Derived.Test.YtanfnafiofkihaaQB
import Derived.Test.YtanfnafiofkihaaHeldEx
import Derived.Test.YtanfnafiofkihaaKA
import Derived.Test.YtanfnafiofkihaaGG
import Derived.Test.YtanfnafiofkihaaGD
import Derived.Test.YtanfnafiofkihaaGH
import Derived.Test.YtanfnafiofkihaaPA
set_option maxRecDepth 100000
set_option maxHeartbeats 12800000
namespace Go.Proofs.Ytanfnafiofkihaa
open Go.RowKit Go.Lib
open List renaming setIfInBounds_toArray -> sA, set_cons_zero -> sB, set_cons_succ -> sC
open BigFrame renaming wpList_want -> wQ
theorem pprerased_walk (l:List UInt8)(hl:l.length = 32)(bt:Nat)(hbt:bt < 256)(v:Value)(L:List Int)(w:World)(hL:Nums w v L):
  Calls Try.prog 5 #[.agg (bcells l).toArray,.int .u8 (bt:Int),v] w λe w'=>e = .returned (.bool true)/\Kept w.heap.size w.heap.size w w':=by
 obtain⟨cad,cc,cg,co,rfl,hc⟩:=hL;have hnew:=λn h1 h2 w=>pnew_callsT l hl n h1 h2 w
 have hbld:=λn w=>build_newRow w l hl n
 obtain⟨LD,hLD⟩:∃ LD,LD = (bcells l).toArray:=⟨_,rfl⟩;have HLI:=hid (show(Try.prog.info? 26).map (·.size) = some LD.size by rw [hLD]; exact keyInfo hl)
 have HLS:=hid (show LD.size = 32 by rw [hLD,List.size_toArray,bcells_length,hl])
 have HLA:=hid (show LD.all (·.oneCell') = true by rw [hLD]; exact bcells_all _)
 simp only [<- hLD] at hnew hbld;rw [<- hLD];have HNEW:=hid hnew;have HBLD:=hid hbld;have HLL:=hid hl;have HLD:=hid hLD;have HC:=hid hc;have HZI:=hid (show(Try.prog.info? 26).map (·.size) = some zeros32.size by rw [zeros32_size]; kernel_rfl)
 obtain⟨ln,hln⟩:∃ ln,ln = L.length:=⟨_,rfl⟩;rw [<- hln];have HLN:=hid hln;have hbt':(bt:Int) < 256:=by omega
 have hk1:Kept w.heap.size w.heap.size w (w.alloc (.cells LD 26)):=(Kept.refl _ _ _).alloc (Nat.le_refl _) _
 have hr1:=heap_new w (.cells LD 26)
 have K1:=hid hk1;have R1:=hid hr1;clear hLD hl hnew hbld hc hln  hbt hk1 hr1
 go_enter Try.func5,Try.ntmps5
 go_upto_region 1 with fail
 generalize w.alloc (.cells LD 26) = w1 at K1 R1 |-
 obtain⟨wa,hwa⟩:∃ wa,wa = w.heap.size:=⟨_,rfl⟩;rw [<- hwa] at R1 |-;have HWA:=hid hwa;clear hwa
 by_cases hlen:ln<=24
 ·have hlen':(ln:Int)<=24:=by omega
  have hng:¬ (ln:Int) > 24:=by omega
  have HL24:=hid hlen;clear hlen
  go_upto_region 3 with (go_at_call 23; refine(ppr_awake _).mono ?_; rintro e w2 ⟨rfl,k2⟩; have K2:=hid (K1.out.next1 k2); have R2:=hid (rk R1.out k2); clear k2)
  as_aux_lemma=>
   have hrem:((bt:Int)).tmod 8 = ((bt % 8:Nat):Int):=rfl;obtain⟨n8,hn8⟩:∃ q,q = bt % 8:=⟨_,rfl⟩;rw [<- hn8] at hrem;have hn8l:n8 < 8:=by omega
   have hn8i:(n8:Int) < 8:=by omega
   have HN8:=hid hn8l;have HB8:=hid hn8;clear hn8 hn8l
   go_upto_region 3 with fail
   refine wp_region_lit ?_;iterate 5 (refine wW λK hK=>?_;go_simp;apply hK;clear hK K)
   clear hrem
   have hsum:IntKind.i64.wrap (1 + IntKind.i64.wrap (n8:Int)) = ((1 + n8:Nat):Int):=by
    have:=HN8.out;rw [IntKind.wrap_i64,IntKind.wrap_i64]
    omega
   obtain⟨n,hn⟩:∃ n,n = 1 + n8:=⟨_,rfl⟩;rw [<- hn] at hsum;rw [hsum];have hn1:1<=n:=by omega
   have hn8':n<=8:=by have:=HN8.out; omega
   have HN1:=hid hn1;have HNL:=hid hn8';clear hn hsum
   go_upto_region 4 with fail
   refine wp_region_lit ?_;refine wW λK hK=>?_;go_simp;go_at_call 7
   refine(new_book w2).mono ?_;rintro e w3 ⟨bb,S0,rfl,hB,k3⟩;have K3:=hid (K2.out.next1 k3);have B3:Hid (Bx.InBk w3 w2.heap.size bb [] 0 (λk=>(Value.slice none 0 0).ownBlock = some k\/(Value.slice none 0 0).ownBlock = some k)):=hid ((Bx.inBk_of ⟨0,Nat.le_refl _,S0,hB⟩).less _ (λk hk=>hk.elim (λe=>by cases e) (λe=>by cases e)))
   have S3:=hid k3.size;have W3:=hid K2.out.size;have R3:=hid (rk R2.out k3);have WB:=hid (lt_of_block R2.out);clear hB k3;obtain⟨b2,hb2⟩:∃ b,b = w2.heap.size:=⟨_,rfl⟩;rw [<- hb2] at B3 S3 W3 WB;clear hb2;apply hK;clear hK K;refine wW λK hK=>?_;go_simp;apply hK;clear hK K
   go_upto_region 5 with fail
   refine wp_region_lit ?_;refine wLk 26 (.tmp 3) rfl (wa) (0) rfl (.agg LD) (run_loadVar_row _ wa 26 26 LD (0,0) _ (R3.out) Try.underlying26 rfl (HLI.out)) ?_
   simp only [Act.put,sA,sB,sC];refine wW λK hK=>?_;go_simp;apply hK;clear hK K;refine wW λK hK=>?_;go_simp;go_at_call 24
   refine(HNEW.out n HN1.out (by have:=HNL.out; omega) _).mono ?_
   rintro e w5 ⟨rb,sl0,rfl,hrb,hr5,k5,ht5⟩;have K5:=hid (K3.out.next1 k5);have B5:=hid (B3.out.kept k5);have R5:=hid (rk R3.out k5);have ROW5:=hid hr5;have TY5:=hid ht5;have HRB:=hid (Nat.le_trans S3.out hrb);clear k5 hr5 ht5 hrb K3 B3 R3;apply hK;clear hK K;iterate 5 (refine wW λK hK=>?_;go_simp;apply hK;clear hK K)
   go_upto_region 6 with fail
   refine wp_region_lit ?_;refine wLk 26 (.tmp 3) rfl (wa) (0) rfl (.agg LD) (run_loadVar_row _ wa 26 26 LD (0,0) _ (R5.out) Try.underlying26 rfl (HLI.out)) ?_
   simp only [Act.put,sA,sB,sC];refine wW λK hK=>?_;go_simp;apply hK;clear hK K;refine wpList_build_pair rfl 60 0 1 _ _ rfl (.agg LD) (.int .i64 (n:Int)) rfl rfl (HBLD.out n _) ?_
   simp only [Act.put,sA,sB,sC];obtain⟨RW,hRW⟩:∃ RW,RW = newRow l n:=⟨_,rfl⟩;rw [<- hRW];have HRS:=hid (show RW.size = 34 by rw [hRW]; exact newRow_size HLL.out n)
   have HRA:=hid (show RW.all (·.oneCell') = true by rw [hRW]; exact newRow_all l n)
   have HRI:=hid (refRowInfo HRS.out);have HROW:=hid hRW;clear hRW;refine @wpL_alloc _ _ _ _ _ _ _ _ ?_ 60 rfl _ (alloc_newRow _) ?_;kernel_rfl
   simp only [Act.put,sA,sB,sC];refine wpList_store_row rfl 60 _ _ rfl (w5.heap.size) RW rfl rfl 60 zerosRow (heap_new _ _) (HRI.out) (by rw [zerosRow_size,HRS.out]) (HRA.out) ?_
   simp only [Act.put];rw [World.setRow_alloc_new];have kk4:Kept w5.heap.size w5.heap.size w5 (w5.alloc (.cells RW 60)):=(Kept.refl _ _ _).alloc (Nat.le_refl _) _
   have hm4:=heap_new w5 (.cells RW 60)
   rw [HROW.out,newRow] at hm4
   have HP0:Hid (Ne w (w5.alloc (.cells RW 60)) l n rb w5.heap.size wa bb b2 0 [] [] [] (.slice none 0 0) (.slice none 0 0) sl0 []):=hid (by
    refine⟨by rw [<- HLD.out]; exact(kk4.block _ (lt_of_block R5.out) (Nat.ne_of_lt (lt_of_block R5.out))).trans R5.out,?_,TY5.out.kept kk4,by rw [HROW.out,newRow]; exact hm4,OwnI.nil _ _,OwnH.nil _ _,B5.out.kept kk4,K5.out.next1 kk4,W3.out,HRB.out,lt_of_block ROW5.out.1,lt_of_block R5.out,Nat.le_of_eq HWA.out.symm⟩
    rw [Pp.low_whole (show Pp.Whole n [] ⟨0,0,l⟩ from λ_ h=>nomatch h)]
    exact ROW5.out.kept kk4)
   clear kk4 hm4;generalize w5.alloc (.cells RW 60) = w6 at HP0 |-
   obtain⟨mb,hmb⟩:∃ mb,mb = w5.heap.size:=⟨_,rfl⟩;rw [<- hmb] at HP0 |-;clear hmb ROW5 TY5 R5 B5 HRB K5 S3 W3 WB R2 K2;obtain⟨iH,zH,hiH,hzH,hzsH,hsH,hbH⟩:=hash_info;have HIH:=hid hiH;have HZH:=hid hzH;have HSH:=hid hsH;clear hiH hzH hzsH hsH hbH
   go_wp2_with fail
   go_loopw [12,13] (λs12 s13 wr=>∃ i:Nat,s13 = .int .i64 (i:Int)/\Hid (i<=ln)/\∃ (P:List Nat) (T sl:Value) (K:List (List UInt8)),Hid (P.length<=i/\K.length = P.length)/\Hid (Pp.Apart n P)/\Hid (Ne w wr l n rb mb wa bb b2 (99 * i) (Pp.factsOf n l P) P P T s12 sl K)) (λ_ s13 _=>ln - (RowKit.intOf s13).toNat)
   case atStart=>exact⟨0,rfl,hid (Nat.zero_le _),[],_,_,[],hid ⟨Nat.le_refl _,rfl⟩,hid (λ_ h=>absurd h (Nat.not_lt_zero _)),HP0⟩
   case round=>
    clear HP0;obtain⟨i,rfl,hi,P,T,sl,K,HPI,HAP,HN⟩:=hrel
    by_cases hlt:i < ln
    ·as_aux_lemma=>
      have hiL:i < L.length:=by rw [<- HLN.out]; exact hlt
      obtain⟨had,hg,hpl0⟩:=HC.out i hiL;subst had;have hlti:(i:Int) < (ln:Int):=by omega
      have hi0:¬ (i:Int) < 0:=by omega
      have HPL0:=hid (λ(u:World) (k:Kept w.heap.size w.heap.size w u)=>(k.cell (p:=⟨cg,co + i,none⟩) hg (Nat.ne_of_lt hg)).trans hpl0)
      have hpl:=(HN.out.kept.cell (p:=⟨cg,co + i,none⟩) hg (Nat.ne_of_lt hg)).trans hpl0;generalize L[i] = pl at HPL0 hpl;have HLT:=hid hlt;have hP1000:P.length<=1000:=by have:=HPI.out.1; have:=HL24.out; omega
      have hfs:=Pp.factsOf_small n l HLL.out (by have:=HNL.out; omega) P HAP.out
      obtain⟨fs,hfe⟩:∃ fs,fs = Pp.factsOf n l P:=⟨_,rfl⟩;rw [<- hfe] at HN hfs;have HFE:=hid hfe;have HMK:=hid (show MildK 99 fs (99 * i) from⟨by have:=HL24.out; omega,by have:=hfs.1; have:=HPI.out.1; have:=HL24.out; omega,λg hg=>by have:=hfs.2 g hg; omega⟩)
      obtain⟨kk,er,P2,ho,hk32,hor⟩:=Pp.out_ex n P l pl fs;have hok:=HN.out.key.hs;obtain⟨_,kad,kg,ko,kc,hke,_⟩:=hok;subst hke;obtain⟨Ta,Tg,Tc,hTv,_⟩:=HN.out.own.shape;subst hTv;have htk:=λ(u:World) (h:Ne w u l n rb mb wa bb b2 (99 * i) fs P P (.slice Ta P.length Tc) (.slice kad K.length kc) sl K)=>Bx.play_take_book b2 bb (99 * i) fs _ n (by have:=HNL.out; omega) P hP1000 l HLL.out rb pl ho sl u h.row h.bk h.base h.xlt HMK.out h.typ h.lor
      obtain⟨KD,hKD⟩:∃ KD,KD = (bcells kk).toArray:=⟨_,rfl⟩;rw [<- hKD] at htk;have HTK:=hid htk;have HKS:=hid (show KD.size = 32 by rw [hKD]; exact keyD_size hk32)
      have HKA:=hid (show KD.all (·.oneCell') = true by rw [hKD]; exact bcells_all _)
      have HKI:=hid (show(Try.prog.info? 26).map (·.size) = some KD.size by rw [hKD]; exact keyInfo hk32)
      have HKD:=hid hKD;have HK32:=hid hk32;have HOR:=hid hor;obtain⟨kn,hkn⟩:∃ kn,kn = K.length:=⟨_,rfl⟩;obtain⟨pn,hpn⟩:∃ pn,pn = P.length:=⟨_,rfl⟩;rw [<- hkn,<- hpn] at HN HTK;rw [<- hkn];have HKN:=hid hkn;have HPN:=hid hpn;clear hlt hi hg hpl0 hiL hfs hfe ho hk32 hor htk hKD hP1000 hkn hpn
      go_upto_region 9 with fail
      refine wp_region_lit ?_;iterate 4 (refine wW λK hK=>?_;go_simp;apply hK;clear hK K)
      go_upto_region 11 with fail
      refine wp_region_lit ?_;iterate 6 (refine wW λK hK=>?_;go_simp;apply hK;clear hK K)
      refine wW λK hK=>?_;go_simp;go_at_call 29
      refine(HTK.out _ HN.out).mono ?_;rintro e x3 ⟨rfl,sl2,hr3,q3,f3,hn3⟩;have N3:=hid (HN.out.take hr3 q3 f3 hn3);clear q3 f3 hr3 hn3 HTK HN;apply hK;clear hK K;iterate 3 (refine wW λK hK=>?_;go_simp;apply hK;clear hK K)
      refine @wpL_alloc _ _ _ _ _ _ _ _ ?_ 26 rfl _ (alloc_hash _) ?_;kernel_rfl
      simp only [Act.put,sA,sB,sC];refine wpList_store_row rfl 26 _ _ rfl (x3.heap.size) KD rfl rfl 26 zeros32 (heap_new _ _) (HKI.out) (zeros32_size.trans HKS.out.symm) (HKA.out) ?_
      simp only [Act.put];rw [World.setRow_alloc_new];refine wW λK hK=>?_;go_simp;apply hK;clear hK K;have kk4:Kept x3.heap.size x3.heap.size x3 (x3.alloc (.cells KD 26)):=(Kept.refl _ _ _).alloc (Nat.le_refl _) _
      have N4:=hid (N3.out.step kk4);have R4:=hid (heap_new x3 (.cells KD 26))
      clear kk4 N3;generalize x3.alloc (.cells KD 26) = x4 at N4 R4 |-
      obtain⟨qb,hqb⟩:∃ qb,qb = x3.heap.size:=⟨_,rfl⟩;rw [<- hqb] at R4 |-;clear hqb hpl
      rcases HOR.out with ⟨rfl,p,hp1,hp2,hp3,hp4⟩ | ⟨hbe,hp1,hp2⟩
      ·clear HOR
       subst hp1;subst hp4;have hap:=Pp.Apart.snoc HAP.out hp2 hp3;have HAP2:=hid hap;have N5:Hid (Ne w x4 l n rb mb wa bb b2 (99 * i + 99) (Pp.factsOf n l (P ++ [p])) (P ++ [p]) P (.slice Ta pn Tc) (.slice kad kn kc) sl2 K):=hid (by rw [Pp.factsOf_snoc,<- HFE.out]; exact N4.out)
       clear hp2 hp3 hap N4
       as_aux_lemma=>
        go_upto_region 12 with fail
        refine wp_region_lit ?_;iterate 2 (refine wW λK hK=>?_;go_simp;apply hK;clear hK K)
        have kz:Kept x4.heap.size x4.heap.size x4 (x4.alloc (.cells KD 26)):=(Kept.refl _ _ _).alloc (Nat.le_refl _) _
        have n6:=N5.out.step kz;obtain⟨kv,x8,happ,hown,hgr,hnb⟩:=append_hashB (x4.alloc (.cells KD 26)) (mb + 1) (.slice kad kn kc) K n6.key n6.mlt x4.heap.size 1 kk HK32.out (row_range (by rw [HKD.out]; exact heap_new _ _)) (by have:=HPI.out; have:=HLT.out; have:=HL24.out; omega)
        have N8:=hid (n6.keyed hown hgr hnb);have HAPP:=hid happ;obtain⟨_,kad2,_,_,kc2,hkv,_⟩:=hown.hs;have hkl:(K ++ [kk]).length = kn + 1:=by rw [List.length_append,List.length_singleton,HKN.out]
        rw [hkl] at hkv;subst hkv;clear kz n6 happ hown hgr hnb hkl N5
        go_upto_region 13 with fail
        refine wp_region_lit ?_;refine wW λK hK=>?_;go_simp;apply hK;clear hK K;refine wLk 26 (.tmp 14) rfl (qb) (0) rfl (.agg KD) (run_loadVar_row _ qb 26 26 KD (0,0) _ (R4.out) Try.underlying26 rfl (HKI.out)) ?_
        simp only [Act.put,sA,sB,sC];refine wpList_build_one rfl _ 23 26 rfl iH zH Try.underlying23 HIH.out HZH.out KD rfl (by rw [HSH.out]; exact HKS.out) (by rw [HSH.out]; decide) (by rw [HSH.out]; decide) ?_
        simp only [Act.put,sA,sB,sC];refine wpList_append_known rfl _ _ 23 23 23 rfl rfl (.slice kad kn kc) (.slice (some ⟨x4.heap.size,0,none⟩) 1 1) rfl rfl HAPP.out ?_
        simp only [Act.put,sA,sB,sC];refine wW λK hK=>?_;go_simp;apply hK;clear hK K;clear HAPP;obtain⟨wd,hwd⟩:∃ wd,wd = x8.drew:=⟨_,rfl⟩;have n9:Ne w wd l n rb mb wa bb b2 (99 * i + 99) (Pp.factsOf n l (P ++ [p])) (P ++ [p]) P (.slice Ta pn Tc) (.slice kad2 (kn + 1) kc2) sl2 (K ++ [kk]):=N8.out.step (by rw [hwd]; exact(Kept.refl _ _ _).drew)
        have hm9:=n9.m;rw [refRow] at hm9
        have c33:wd.cell? ⟨mb,33,none⟩ = some (.slice Ta pn Tc):=by
         rw [cells_at hm9 33 (by simp [bcells_length,HLL.out])]
         simp [List.getElem_append_right,bcells_length,HLL.out]
        have cpl:=HPL0.out _ n9.kept;have HS0:=hid (show wd.cell? ⟨mb,33,none⟩ = some (.slice Ta pn Tc)/\wd.cell? ⟨cg,co + i,none⟩ = some (.int .i64 (p:Int)) from⟨c33,cpl⟩);have kz:Kept wd.heap.size wd.heap.size wd (wd.alloc (.cells #[.int .i64 (p:Int)] 3)):=(Kept.refl _ _ _).alloc (Nat.le_refl _) _
        have n10:=n9.step kz;have hm10:=n10.m;rw [refRow] at hm10
        have HS1:=hid (show(wd.alloc (.cells #[.int .i64 (p:Int)] 3)).cell? ⟨mb,33,none⟩ = some (.slice Ta pn Tc)/\(wd.alloc (.cells #[.int .i64 (p:Int)] 3)).cell? ⟨cg,co + i,none⟩ = some (.int .i64 (p:Int)) from⟨by
         rw [cells_at hm10 33 (by simp [bcells_length,HLL.out])]
         simp [List.getElem_append_right,bcells_length,HLL.out],HPL0.out _ n10.kept⟩)
        obtain⟨T',x9,happ,hown,hgr,hnb⟩:=append_int (wd.alloc (.cells #[.int .i64 (p:Int)] 3)) (mb + 1) (.slice Ta pn Tc) P n10.own n10.mlt wd.heap.size 1 p (World.cell?_alloc_new wd _ _ 0) (by have:=HPI.out.1; have:=HLT.out; have:=HL24.out; omega)
        have hm11:=(hgr.block mb n10.mlt (λe=>by have:=(n10.own.lt mb e.symm).1; omega)).trans n10.m
        rw [refRow] at hm11;have n11:=n10.more HLL.out hown hgr hnb;have k11:x9.cell? ⟨cg,co + i,none⟩ = some (.int .i64 (p:Int)):=HPL0.out _ (n10.kept.trans ⟨hgr.os,hgr.tape,hgr.output,hgr.size,λk hk _=>hgr.block k (Nat.lt_of_lt_of_le hk n10.kept.size) (λe=>by have:=(n10.own.lt k e.symm).1; have:=n10.w0a; have:=n10.wam; omega)⟩)
        have HS2:=hid (show x9.cell? ⟨mb,33,none⟩ = some (.slice Ta pn Tc)/\x9.cell? ⟨cg,co + i,none⟩ = some (.int .i64 (p:Int)) from⟨by
         rw [cells_at hm11 33 (by simp [bcells_length,HLL.out])]
         simp [List.getElem_append_right,bcells_length,HLL.out],k11⟩)
        have f33:=cells_free hm11 33;have c34:=HS2.out.1;have N11:=hid n11;have HAPP:=hid happ;obtain⟨Ta',Tg',Tc',hT',hT2⟩:=hown.shape;have hT3:T' = .slice (some ⟨Tg',0,none⟩) (pn + 1) Tc':=by rw [hT',(hT2 (by simp)).1,List.length_append,HPN.out]; rfl
        clear hT' hT2 hown hgr hnb kz happ n9 n10 n11 hm9 hm10 hm11 k11 cpl c33 N8;subst hT3
        go_upto_region 14 with fail
        refine wp_region_noPanic ?_;refine wp_region_heldTo 9 (S:=λx=>x.cell? ⟨mb,33,none⟩ = some (.slice Ta pn Tc)/\x.cell? ⟨cg,co + i,none⟩ = some (.int .i64 (p:Int))) (by kernel_rfl) (by rw [<- hwd]; exact HS0.out) (λhH=>?_)
        rw [<- hwd] at hH |-;clear hwd;refine tkH (i:=0) 70 rfl hH ?_
        apply Exists.intro;apply And.intro
        ·intro w9 h9
         go_simp
         first | done | rfl
        simp only [sA,sB,sC];refine tkT (i:=1) 71 (.slice Ta pn Tc) rfl (yieldsIf_load_known (by kernel_rfl) 58 _ rfl (mb) (33) rfl (.slice Ta pn Tc) (λu hu=>(by have c9:=hu.1; go_simp))) hH ?_
        simp only [sA,sB,sC];refine tkH (i:=2) 72 rfl hH ?_
        apply Exists.intro;apply And.intro
        ·intro w9 h9
         go_simp
         first | done | rfl
        simp only [sA,sB,sC];refine tkH (i:=3) 73 rfl hH ?_
        apply Exists.intro;apply And.intro
        ·intro w9 h9
         go_simp
         first | done | rfl
        simp only [sA,sB,sC];refine tkH (i:=4) 74 rfl hH ?_
        apply Exists.intro;apply And.intro
        ·intro w9 h9
         go_simp
         first | done | rfl
        simp only [sA,sB,sC];refine tkT (i:=5) 75 (.int .i64 (p:Int)) rfl (yieldsIf_load_known (by kernel_rfl) 3 _ rfl (cg) (co + i) rfl (.int .i64 (p:Int)) (λu hu=>(by have c9:=hu.2; go_simp))) hH ?_
        simp only [sA,sB,sC];refine heldTo_one (i:=6) (by kernel_rfl) rfl (λK hK=>?_)
        rw [if_pos (by rfl)]
        go_simp;refine hK.out _ _ HS1.out (λhH=>?_)
        clear hK K;refine heldTo_one (i:=7) (by kernel_rfl) rfl (λK hK=>?_)
        rw [if_pos (by rfl)]
        refine wp_append_run' _ _ 58 58 58 rfl rfl (.slice Ta pn Tc) (.slice (some ⟨wd.heap.size,0,none⟩) 1 1) rfl rfl HAPP.out ?_
        simp only [Act.put,List.setIfInBounds_toArray];refine hK.out _ _ HS2.out (λhH=>?_)
        clear hK K;refine heldTo_one (i:=8) (by kernel_rfl) rfl (λK hK=>?_)
        rw [if_pos (by rfl)]
        go_simp;refine hK.out _ _ HS2.out (λhH=>?_)
        clear hK K;refine heldTo_last (by kernel_rfl) rfl (λK hK=>?_)
        rw [if_pos (by rfl)]
        go_simp;refine hK.out _ _ ?_;clear hK K;refine heldTo_done (by kernel_rfl) ?_ _
        refine NoPanic.normal ?_;clear hH;clear c34 f33;generalize x9.setCell ⟨mb,33,none⟩ (.slice (some ⟨Tg',0,none⟩) (pn + 1) Tc') = x10 at N11 |-;go_wp2
        go_roundw
        case rel=>exact⟨i + 1,by simp,hid HLT.out,P ++ [p],.slice (some ⟨Tg',0,none⟩) (pn + 1) Tc',sl2,K ++ [kk],hid (by have:=HPI.out; simp; omega),HAP2,hid (by have:=N11.out; rwa [show 99 * i + 99 = 99 * (i + 1) by omega] at this)⟩
        case measure=>have:=HLT.out; simp [RowKit.intOf]; omega
      ·clear HOR
       subst hp1;have N5:Hid (Ne w x4 l n rb mb wa bb b2 (99 * i + 99) (Pp.factsOf n l P2) P2 P2 (.slice Ta pn Tc) (.slice kad kn kc) sl2 K):=hid (by rw [<- HFE.out]; have h:=N4.out; rwa [hp2] at h)
       clear hp2 N4
       as_aux_lemma=>
        go_upto_region 12 with fail
        refine wp_region_lit ?_;iterate 2 (refine wW λK hK=>?_;go_simp;apply hK;clear hK K)
        go_wp2
        go_roundw
        case rel=>exact⟨i + 1,by simp,hid HLT.out,P2,.slice Ta pn Tc,sl2,K,hid (by have:=HPI.out; omega),HAP,hid (by have:=N5.out; rwa [show 99 * i + 99 = 99 * (i + 1) by omega] at this)⟩
        case measure=>have:=HLT.out; simp [RowKit.intOf]; omega
    ·have hnl:¬ (i:Int) < (ln:Int):=by omega
     as_aux_lemma=>
      have hpi:=HPI.out;have hl24:=HL24.out;have hi9:=hi.out;have hP24:P.length<=24:=by omega
      have hn8:=HNL.out
      have hp32:∀ t∈P,t < 4294967296:=λt ht=>by
       obtain⟨k,hk,rfl⟩:=List.getElem_of_mem ht;exact Nat.lt_of_lt_of_le (HAP.out k hk).1 (Nat.pow_le_pow_right (by decide) (show n<=32 by omega))
      have hfs:=Pp.factsOf_small n l HLL.out (by omega) P HAP.out
      have hlow:=Pp.low_len32 n (by omega) P (by omega) l
      have hlow32:=λs hs=>(Pp.low_in n (by omega) P l HLL.out s hs).2.2
      obtain⟨_,kad,kg,ko,kc,hke,_⟩:=HN.out.key.hs;subst hke;obtain⟨Ta,Tg,Tc,hTv,_⟩:=HN.out.own.shape;subst hTv;obtain⟨TS,hTS⟩:∃ TS,TS = refRow l n (.slice Ta P.length Tc):=⟨_,rfl⟩;have HMI:=hid (refRowInfo (show TS.size = 34 by rw [hTS]; exact refRow_size HLL.out n _))
      have HM15:=hid (show wr.heap[mb]? = some (.cells TS 60 (0,0)) by rw [hTS]; exact HN.out.m)
      have hsd:=λw h=>refseeds_calls l HLL.out n (by omega) (.slice Ta P.length Tc) P hp32 (by omega) w h
      rw [<- hTS] at hsd;obtain⟨fs,hfe⟩:∃ fs,fs = Pp.factsOf n l P:=⟨_,rfl⟩;obtain⟨LOW,hLOW⟩:∃ x,x = Pp.low n P n ⟨0,0,l⟩:=⟨_,rfl⟩;rw [<- hLOW] at hsd hlow hlow32;rw [<- hfe] at HN hfs;obtain⟨nn,hnn⟩:∃ nn,nn = 99 * i:=⟨_,rfl⟩;rw [<- hnn] at HN;obtain⟨kn,hkn⟩:∃ kn,kn = K.length:=⟨_,rfl⟩;obtain⟨pn,hpn⟩:∃ pn,pn = P.length:=⟨_,rfl⟩;rw [<- hpn] at HN hsd;rw [<- hkn] at HN |-;have HNN:=hid (show nn<=2400 by omega)
      have HSDS:=hid hsd;have HFE:=hid hfe;have HFSM:=hid hfs;have HKN:=hid hkn;have HPN:=hid hpn;have HPN24:=hid (show pn<=24 by omega)
      have hpn9:(pn:Int)<=24:=by have:=HPN24.out; omega
      have HKN2:=hid (show kn = pn by omega)
      have HP32:=hid hp32;have HLOW:=hid hLOW;have HLOWN:=hid hlow;have HLOW32:=hid hlow32;clear hpi hl24 hi9 hP24 hn8 hp32 hfs hlow hlow32 hsd hfe hLOW hnn hkn hpn hTS hlt hi
      go_upto_region 15 with fail
      refine wp_region_lit ?_;refine wLk 60 (.tmp 11) rfl (mb) (0) rfl (.agg TS) (run_loadVar_row _ mb 60 60 TS (0,0) _ (HM15.out) Try.underlying60 rfl (HMI.out)) ?_
      simp only [Act.put,sA,sB,sC];refine wW λK hK=>?_;go_simp;go_at_call 30
      refine(HSDS.out _ HN.out.own.gones).mono ?_;rintro e x15 ⟨v16,rfl,o16,k15⟩;have N0:=hid (HN.out.step k15);obtain⟨lad,lg,lo,lc,hle,_⟩:=o16.ss;subst hle;have O0:=hid (o16.mono (Nat.zero_le _));clear k15 o16 HM15 HMI HSDS HN;apply hK;clear hK K;refine wW λK hK=>?_;go_simp;apply hK;clear hK K;obtain⟨sn,hsn⟩:∃ sn,sn = LOW.length:=⟨_,rfl⟩;rw [<- hsn] at O0 |-;have HSN:=hid hsn;clear hsn
      go_wp2_with fail
      go_loopw [17,18] (λs17 s18 x=>∃ k:Nat,s18 = .int .i64 (k:Int)/\Hid (k<=pn)/\Hid (Ne w x l n rb mb wa bb b2 nn fs P P (.slice Ta pn Tc) (.slice kad kn kc) sl K)/\Hid (OwnF x (mb + 1) s17 (Pp.factsOf n l (P.take k)))/\Hid (OwnR x 0 (.slice lad sn lc) LOW)) (λ_ s18 _=>pn - (RowKit.intOf s18).toNat)
      case atStart=>exact⟨0,rfl,hid (Nat.zero_le _),N0,hid (OwnF.nil _ _),O0⟩
      case round=>
       clear N0 O0;obtain⟨k,rfl,hk,NK,FK,RK⟩:=hrel
       by_cases hlt:k < pn
       ·as_aux_lemma=>
         have hlti:(k:Int) < (pn:Int):=by omega
         have hk0:¬ (k:Int) < 0:=by omega
         have hkP:k < P.length:=by rw [<- HPN.out]; exact hlt
         obtain⟨g9,c9,hT9,hcut,hgn,hg9,hp9⟩:=NK.out.own.cut hkP;rw [HPN.out] at hT9;injection hT9 with e1 e2 e3
         clear e2;subst e1 e3
         obtain⟨hpp,hpm⟩:=HAP.out k hkP;have htk:P.take (k + 1) = P.take k ++ [P[k]]:=List.take_succ_eq_append_getElem hkP;have hpx32:=HP32.out _ (List.getElem_mem hkP);generalize P[k] = p at hp9 hpp hpm htk hpx32;have hQ32:∀ t∈P.take k,t < 4294967296:=λt ht=>HP32.out t (List.mem_of_mem_take ht)
         have hfk:=Pp.factsOf_small n l HLL.out (by have:=HNL.out; omega) (P.take k) (λj hj=>by
          have hj9:j < k/\j < P.length:=by
           have h9:j < min k P.length:=by simpa using hj
           omega
          have h9:=HAP.out j hj9.2;rw [List.getElem_take,List.take_take,Nat.min_eq_left (Nat.le_of_lt hj9.1)]
          exact h9)
         have hql:(P.take k).length = k:=by rw [List.length_take]; omega
         rw [hql] at hfk;obtain⟨fk,hfke⟩:∃ fk,fk = Pp.factsOf n l (P.take k):=⟨_,rfl⟩;rw [<- hfke] at FK hfk;have hfac:=λw h=>reffacts_calls l HLL.out n (by have:=HNL.out; omega) (.slice (some ⟨g9,0,none⟩) k Tc) (P.take k) hQ32 (by rw [hql]; have:=HPN24.out; omega) p hpx32 w h
         have hsnoc:Pp.factsOf n l (P.take (k + 1)) = (Pp.upto n (P.take k) p l (n + 1)).foldl Bk.note fk:=by rw [htk,Pp.factsOf_snoc,<- hfke,Pp.noted_fresh n (P.take k) l p fk hpp hpm]
         obtain⟨FL,hFL⟩:∃ FL,FL = Pp.upto n (P.take k) p l (n + 1):=⟨_,rfl⟩;rw [<- hFL] at hfac hsnoc
         have hsm:FL.length<=9/\∀ g∈FL,g.1.length<=2/\g.2.length<=2:=by
          rw [hFL];refine⟨by have:=Pp.upto_length n (P.take k) p l (n + 1); have:=HNL.out; omega,λg hg=>?_⟩
          obtain⟨h1,h2,h3,_⟩:=Pp.upto_small n (P.take k) p l HLL.out (n + 1) g hg
          omega
         have hbl:=λw=>build_refRow3 w l HLL.out n g9 k Tc
         rw [<- HLD.out] at hbl;obtain⟨TK,hTK⟩:∃ TK,TK = refRow l n (.slice (some ⟨g9,0,none⟩) k Tc):=⟨_,rfl⟩;rw [<- hTK] at hbl hfac;have HFAC:=hid (λ(u:World) (kk:Kept wr.heap.size wr.heap.size wr u)=>hfac u (hgn.kept2 kk))
         have HB3:=hid hbl;have HCUT:=hid hcut;have HPK:=hid (λ(u:World) (kk:Kept wr.heap.size wr.heap.size wr u)=>(by have c9:=(kk.cell (p:=⟨g9,k,none⟩) hg9 (Nat.ne_of_lt hg9)).trans hp9; go_simp:(loadVar 3 ⟨g9,k,none⟩).run Try.prog u = .ok (.int .i64 (p:Int)) u))
         have HLT33:=hid (λ(u:World) (kk:Kept wr.heap.size wr.heap.size wr u)=>(by have c9:=(NK.out.step kk).c33 HLL.out; go_simp:(loadVar 58 ⟨mb,33,none⟩).run Try.prog u = .ok (.slice (some ⟨g9,0,none⟩) pn Tc) u))
         have HLW:=hid (λ(u:World) (kk:Kept wr.heap.size wr.heap.size wr u)=>(run_loadVar_row u wa 26 26 LD (0,0) _ (by rw [HLD.out]; exact(NK.out.step kk).seed) Try.underlying26 rfl (HLI.out)))
         have HSNOC:=hid hsnoc;have HSM:=hid hsm;have HFK:=hid hfk;have HLTK:=hid hlt;have c33:=NK.out.c33 HLL.out;clear hkP hcut hgn hg9 hp9 hpp hpm htk hpx32 hQ32 hfk hql hfke hfac hsnoc hFL hsm hbl hTK hlt hk
         go_upto_region 18 with fail
         refine wp_region_lit ?_;iterate 5 (refine wW λK hK=>?_;go_simp;apply hK;clear hK K)
         clear c33
         go_upto_region 20 with fail
         refine wp_region_noPanic ?_;refine wp_region_held_drew (S:=λw'=>Kept wr.heap.size wr.heap.size wr w') (by kernel_rfl) ((Kept.refl _ _ _).drew) (λhH=>?_)
         refine tkA (i:=0) 88 (.agg LD) rfl (yieldsIf_load_known (by kernel_rfl) 26 _ rfl (wa) (0) rfl (.agg LD) (λu hu=>HLW.out u hu)) hH ?_
         simp only [sA,sB,sC];refine tkE (i:=1) 89 rfl hH ?_
         apply Exists.intro;apply And.intro
         ·intro w9 _
          go_simp
          first | done | rfl
         simp only [sA,sB,sC];refine tkE (i:=2) 90 rfl hH ?_
         apply Exists.intro;apply And.intro
         ·intro w9 _
          go_simp
          first | done | rfl
         simp only [sA,sB,sC];refine tkA (i:=3) 91 (.slice (some ⟨g9,0,none⟩) pn Tc) rfl (yieldsIf_load_known (by kernel_rfl) 58 _ rfl (mb) (33) rfl (.slice (some ⟨g9,0,none⟩) pn Tc) (λu hu=>HLT33.out u hu)) hH ?_
         simp only [sA,sB,sC];refine tkE (i:=4) 92 rfl hH ?_
         apply Exists.intro;apply And.intro
         ·intro w9 _
          go_simp
          first | done | rfl
         simp only [sA,sB,sC];refine tkA (i:=5) 93 (.slice (some ⟨g9,0,none⟩) k Tc) rfl (yieldsIf_cut (by kernel_rfl) 58 _ _ rfl (.slice (some ⟨g9,0,none⟩) pn Tc) (.int .i64 (k:Int)) _ rfl rfl HCUT.out) hH ?_
         simp only [sA,sB,sC];refine tkA (i:=6) 94 (.agg TK) rfl (yieldsIf_build3 (by kernel_rfl) 60 _ _ _ rfl (.agg LD) (.int .i64 (n:Int)) (.slice (some ⟨g9,0,none⟩) k Tc) (.agg TK) rfl rfl rfl HB3.out) hH ?_
         simp only [sA,sB,sC];refine tkE (i:=7) 95 rfl hH ?_
         apply Exists.intro;apply And.intro
         ·intro w9 _
          go_simp
          first | done | rfl
         simp only [sA,sB,sC];refine tkA (i:=8) 96 (.slice (some ⟨g9,0,none⟩) pn Tc) rfl (yieldsIf_load_known (by kernel_rfl) 58 _ rfl (mb) (33) rfl (.slice (some ⟨g9,0,none⟩) pn Tc) (λu hu=>HLT33.out u hu)) hH ?_
         simp only [sA,sB,sC];refine tkE (i:=9) 97 rfl hH ?_
         apply Exists.intro;apply And.intro
         ·intro w9 _
          go_simp
          first | done | rfl
         simp only [sA,sB,sC];refine tkE (i:=10) 98 rfl hH ?_
         apply Exists.intro;apply And.intro
         ·intro w9 _
          go_simp
          first | done | rfl
         simp only [sA,sB,sC];refine tkA (i:=11) 99 (.int .i64 (p:Int)) rfl (yieldsIf_load_known (by kernel_rfl) 3 _ rfl (g9) (k) rfl (.int .i64 (p:Int)) (λu hu=>HPK.out u hu)) hH ?_
         simp only [sA,sB,sC];refine wpAnyH_ready (rs:=[12]) (by kernel_rfl) (by simp) ?_
         refine AllReadyH.cons rfl (λK hK=>?_) AllReadyH.nil
         rw [if_pos (by rfl)]
         go_simp
         go_wp2_with (go_at_call 27; refine(HFAC.out _ hH).mono ?_; rintro e x20 ⟨v19,rfl,o17,kx20⟩)
         have K20:Kept wr.heap.size wr.heap.size wr x20:=hH.trans (kx20.mono hH.size (λi hi _=>Nat.ne_of_lt (Nat.lt_of_lt_of_le hi hH.size)))
         refine hK.out _ _ (K20) (λhH=>?_)
         clear hK K;refine tkE (i:=13) 19 rfl hH ?_
         apply Exists.intro;apply And.intro
         ·intro w9 _
          go_simp
          first | done | rfl
         simp only [sA,sB,sC];refine wpAnyH_done (by kernel_rfl) ?_ _
         refine NoPanic.normal ?_;clear hH;have N3:=hid (NK.out.step K20);have A3:=hid (λ(q:Nat) (hq:v19.ownBlock = some q)=>(show u17.ownBlock≠some q from λe=>by have h1:=(o17.typ hq).1; have h2:=(FK.out.typ e).2.1; have h3:wr.drew.heap.size = wr.heap.size:=rfl; omega))
         have F3:=hid (FK.out.kept K20 (Nat.le_refl _));have R3:=hid (RK.out.kept K20 (Nat.le_refl _));obtain⟨fad2,fc2,rfl⟩:=o17.shape;obtain⟨fl,hfl⟩:∃ t,t = FL.length:=⟨_,rfl⟩;have HFLN:=hid hfl;have O3:=hid (o17.low (Nat.zero_le _));rw [<- hfl] at O3 A3 |-;have hfl9:fl<=9:=by rw [hfl]; exact HSM.out.1
         clear K20 kx20 o17 hfl NK FK RK HFAC HB3 HCUT HPK HLT33 HLW
         go_wp2_with fail
         go_loopw [17,20] (λs17 s20 wx=>∃ j:Nat,s20 = .int .i64 (j:Int)/\Hid (j<=fl)/\Hid (Ne w wx l n rb mb wa bb b2 nn fs P P (.slice (some ⟨g9,0,none⟩) pn Tc) (.slice kad kn kc) sl K)/\Hid (OwnF wx (mb + 1) s17 ((FL.take j).foldl Bk.note fk))/\Hid (OwnF wx 0 (.slice fad2 fl fc2) FL)/\Hid (∀ q,(Value.slice fad2 fl fc2).ownBlock = some q->s17.ownBlock≠some q)/\Hid (OwnR wx 0 (.slice lad sn lc) LOW)) (λ_ s20 _=>fl - (RowKit.intOf s20).toNat)
         case atStart=>exact⟨0,rfl,hid (Nat.zero_le _),N3,hid (by simpa using F3.out),O3,A3,R3⟩
         case round=>
          clear N3 O3 A3 F3 R3;obtain⟨j,rfl,hj,NJ,FJ,OJ,AJ,RJ⟩:=hrel
          by_cases hlt:j < fl
          ·as_aux_lemma=>
            have hltj:(j:Int) < (fl:Int):=by omega
            have hj0:¬ (j:Int) < 0:=by omega
            have hjF:j < FL.length:=by rw [<- HFLN.out]; exact hlt
            obtain⟨fg2,fa,fb,had,hfg,hfr,ha,hb⟩:=OJ.out.at j hjF;subst had;have hft:=fold_take FL fk j hjF;have hfz:=HSM.out.2 FL[j] (List.getElem_mem hjF);obtain⟨fx,hfx⟩:∃ t,t = FL[j]:=⟨_,rfl⟩;rw [<- hfx] at ha hb hft hfz;obtain⟨Gk,hGk⟩:∃ t,t = (FL.take j).foldl Bk.note fk:=⟨_,rfl⟩;rw [<- hGk] at hft
            have hgl:Gk.length<=2000/\∀ f∈Gk,f.1.length<=2/\f.2.length<=2:=by
             rw [hGk];refine⟨?_,λf hf=>?_⟩
             ·have h1:=Pm.fold_length (FL.take j) fk
              have h2:(FL.take j).length<=j:=List.length_take_le _ _;have h3:=HFK.out.1;have h4:=HSM.out.1;have h5:=HLTK.out;have h6:=HPN24.out
              omega
             ·rcases Pm.fold_mem f _ _ hf with h | h
              ·exact HFK.out.2 f h
              ·exact HSM.out.2 f (List.mem_of_mem_take h)
            have FG:Hid (OwnF wr (mb + 1) u17 Gk):=hid (by rw [hGk]; exact FJ.out)
            have HNT:=hid (refnote_callsG Gk fx u17 fa fb wr (mb + 1) FG.out NJ.out.mlt ha hb (by omega) (λg hg=>by have:=hgl.2 g hg; omega) (by omega) (by omega))
            have HRR:=hid hfr;have HFT:=hid hft;have HLTJ:=hid hlt;have HFI:=hid (show(Try.prog.info? 35).map (·.size) = some [fa,fb].length by kernel_rfl)
            clear ha hb hft hfz hfx hGk hgl hfr hfg FJ hlt hj hjF
            go_upto_region 22 with fail
            refine wp_region_lit ?_;iterate 4 (refine wW λK hK=>?_;go_simp;apply hK;clear hK K)
            go_upto_region 24 with fail
            refine wp_region_lit ?_;iterate 4 (refine wW λK hK=>?_;go_simp;apply hK;clear hK K)
            refine wpList_load_mid rfl 35 (.tmp 111) rfl fg2 (j * 2) rfl [fa,fb] _ HRR.out Try.underlying35 rfl HFI.out ?_
            simp only [Act.put,sA,sB,sC];refine wW λK hK=>?_;go_simp;go_at_call 18
            refine(HNT.out).mono ?_;rintro e w38 ⟨v38,rfl,o38,k38,g38⟩;have N38:=hid (NJ.out.note FG.out k38 g38);have F38:=hid o38;have O38:=hid (OJ.out.stay2 (w':=w38) (λq hq=>g38.1 q (OJ.out.typ hq).2.1 (AJ.out q hq)) (λq cs fr hh=>(g38.stayG FG.out).cells hh (by decide)))
            have R38:=hid (RJ.out.noted (g38.stayG FG.out));have A38:Hid (∀ q,(Value.slice (some ⟨fg2,0,none⟩) fl fc2).ownBlock = some q->v38.ownBlock≠some q):=hid (λq hq e=>(g38.2 q e).elim (λh=>AJ.out q hq h) (λh=>by have:=(OJ.out.typ hq).2.1; omega))
            clear o38 k38 g38 HNT HRR OJ AJ NJ FG RJ;apply hK;clear hK K;iterate 4 (refine wW λK hK=>?_;go_simp;apply hK;clear hK K)
            have hk9:=HLTJ.out;go_wp2
            go_roundw
            case rel=>exact⟨j + 1,by simp,hid HLTJ.out,N38,hid (by rw [HFT.out]; exact F38.out),O38,A38,R38⟩
            case measure=>have:=HLTJ.out; simp [RowKit.intOf]; omega
          ·have hnl:¬ (j:Int) < (fl:Int):=by omega
           have F5:Hid (OwnF wr (mb + 1) u17 (Pp.factsOf n l (P.take (k + 1)))):=hid (by
            have h:=FJ.out
            rwa [List.take_of_length_le (by rw [<- HFLN.out]; omega),<- HSNOC.out] at h)
           clear hlt hj FJ OJ AJ
           as_aux_lemma=>
            have hk9:=HLTK.out;go_wp2
            go_roundw
            case rel=>exact⟨k + 1,by simp,hid HLTK.out,NJ,F5,RJ⟩
            case measure=>have:=HLTK.out; simp [RowKit.intOf]; omega
       ·have hnl:¬ (k:Int) < (pn:Int):=by omega
        have FE:Hid (OwnF wr (mb + 1) u17 fs):=hid (by
         have h:=FK.out
         rwa [List.take_of_length_le (by have:=HPN.out; omega),<- HFE.out] at h)
        have c33:=NK.out.c33 HLL.out;clear hlt hk FK
        as_aux_lemma=>
         generalize wr = w5 at NK FE RK c33 |-;obtain⟨i0,z0,hi0,hz0,hzs0,hs0,hb0⟩:=book_info;have HI0:=hid hi0;have HZ0:=hid hz0;have HS0:=hid hs0;clear hi0 hz0 hzs0 hs0 hb0;obtain⟨BO,hBO⟩:∃ b,b = w5.heap.size:=⟨_,rfl⟩;have HBO:=hid hBO;have hsn9:(sn:Int)<=1000000:=by have h1:=HSN.out; have h2:=HLOWN.out; omega
         have HSN9:=hid hsn9;obtain⟨FR,hFR⟩:∃ x,x = LOW.map Sd.self:=⟨_,rfl⟩;have HFR:=hid hFR;have HFRN:=hid (show sn = FR.length by rw [hFR,List.length_map]; exact HSN.out)
         have HFR32:=hid (show ∀ x∈FR,x.length = 32 from λx hx=>by
          rw [hFR] at hx;obtain⟨s,hs,rfl⟩:=List.mem_map.1 hx
          exact HLOW32.out s hs)
         clear hBO hFR
         go_wp2_with fail
         clear c33
         go_loopw [21,22] (λs21 s22 x=>∃ k:Nat,s22 = .int .i64 (k:Int)/\Hid (k<=sn)/\Hid (Kept w5.heap.size w5.heap.size w5 x)/\Hid (Own x BO s21 (FR.take k))) (λ_ s22 _=>sn - (RowKit.intOf s22).toNat)
         case atStart=>exact⟨0,rfl,hid (Nat.zero_le _),hid (Kept.refl _ _ _),hid (Own.nil _ _)⟩
         case round=>
          obtain⟨k,rfl,hk,KK,OK⟩:=hrel
          by_cases hlt:k < sn
          ·as_aux_lemma=>
            have hltk:(k:Int) < (sn:Int):=by omega
            have hk0:¬ (k:Int) < 0:=by omega
            have hkL:k < LOW.length:=by rw [<- HSN.out]; exact hlt
            have hkF:k < FR.length:=by rw [<- HFRN.out]; exact hlt
            obtain⟨zad,zg,zo,zc,hze,hzc,_⟩:=(RK.out.kept KK.out (Nat.le_refl _)).ss;injection hze with e1 e2 e3
            clear e2;subst e1 e3;obtain⟨had,hzg,hzr⟩:=hzc k hkL;subst had;have htk:=List.take_succ_eq_append_getElem hkF;have hx32:=HFR32.out FR[k] (List.getElem_mem hkF);have hxe:FR[k] = LOW[k].self:=by simp [HFR.out]
            obtain⟨x,hx⟩:∃ x,x = FR[k]:=⟨_,rfl⟩;rw [<- hx] at htk hx32 hxe
            have hzr2:wr.rangeAt zg (zo + k * 34 + 2) (bcells x):=λj u hu=>by
             have h9:=hzr (j + 2) u (by rw [hxe] at hu; simpa [Pp.cells] using hu)
             rwa [show zo + k * 34 + (j + 2) = zo + k * 34 + 2 + j by omega] at h9
            have HTK:=hid htk;have HLTK:=hid hlt;obtain⟨XL,hXL⟩:∃ t,t = bcells x:=⟨_,rfl⟩;have HRR:=hid (show wr.rangeAt zg (zo + k * 34 + 2) XL by rw [hXL]; exact hzr2)
            have HXI:=hid (show(Try.prog.info? 25).map (·.size) = some XL.length by rw [hXL,bcells_length,hx32]; kernel_rfl)
            have HXS:=hid (show XL.toArray.size = 32 by rw [hXL,List.size_toArray,bcells_length,hx32])
            have kz:Kept wr.heap.size wr.heap.size wr (wr.alloc (.cells XL.toArray 25)):=(Kept.refl _ _ _).alloc (Nat.le_refl _) _
            have hbo:BO<=(wr.alloc (.cells XL.toArray 25)).heap.size:=by rw [HBO.out]; exact Nat.le_trans KK.out.size kz.size
            obtain⟨v9,u9,hr9,ho9,hg9⟩:=append_digest (wr.alloc (.cells XL.toArray 25)) BO u21 (FR.take k) (OK.out.kept kz (Nat.le_refl _)) hbo wr.heap.size 1 x hx32 (by rw [<- hXL]; exact row_range (heap_new wr (.cells XL.toArray 25))) (by have h2:(FR.take k).length<=k:=List.length_take_le _ _; omega)
            have K9:Hid (Kept w5.heap.size w5.heap.size w5 u9):=hid ((KK.out.next1 kz).trans ⟨hg9.os,hg9.tape,hg9.output,hg9.size,λq hq _=>hg9.block q (Nat.lt_of_lt_of_le hq (Nat.le_trans KK.out.size kz.size)) (λe=>by have:=((OK.out.kept kz (Nat.le_refl _)).low q e.symm).1; have:=HBO.out; omega)⟩)
            have O9:=hid ho9;have R9:=hid hr9;obtain⟨zzad,zzc,hsh⟩:=OK.out.shape (n:=k) (by rw [List.length_take]; omega)
            subst hsh;clear hlt hk OK hzr hzr2 htk hx hxe hx32 hXL kz hr9 ho9 hg9 hzc hzg hkF hkL hbo
            go_upto_region 27 with fail
            refine wp_region_lit ?_;iterate 4 (refine wW λK hK=>?_;go_simp;apply hK;clear hK K)
            go_upto_region 29 with fail
            refine wp_region_lit ?_;iterate 5 (refine wW λK hK=>?_;go_simp;apply hK;clear hK K)
            refine wpList_load_mid rfl 25 (.tmp 126) rfl zg (zo + k * 34 + 2) rfl XL _ HRR.out Try.underlying25 rfl HXI.out ?_
            simp only [Act.put,sA,sB,sC];refine wpList_build_one rfl _ 33 25 rfl i0 z0 Try.underlying33 HI0.out HZ0.out XL.toArray rfl (by rw [HS0.out]; exact HXS.out) (by rw [HS0.out]; decide) (by rw [HS0.out]; decide) ?_
            simp only [Act.put,sA,sB,sC];refine wpList_append_known rfl _ _ 33 33 33 rfl rfl (.slice zzad k zzc) (.slice (some ⟨wr.heap.size,0,none⟩) 1 1) rfl rfl R9.out ?_
            simp only [Act.put,sA,sB,sC];refine wW λK hK=>?_;go_simp;apply hK;clear hK K;have hk9:=HLTK.out;go_wp2
            go_roundw
            case rel=>exact⟨k + 1,by simp,hid HLTK.out,K9,hid (by rw [HTK.out]; exact O9.out)⟩
            case measure=>have:=HLTK.out; simp [RowKit.intOf]; omega
          ·have hnl:¬ (k:Int) < (sn:Int):=by omega
           have OA:Hid (Own wr BO u21 FR):=hid (by
            have h:=OK.out
            rwa [List.take_of_length_le (by rw [<- HFRN.out]; omega)] at h)
           clear hlt hk OK
           as_aux_lemma=>
            have hfl:=HFSM.out;have hp24:=HPN24.out;have hpn:=HPN.out;have hsm:∀ f∈fs,f.1.length < 1000000/\f.2.length < 1000000:=λf hf=>by have:=hfl.2 f hf; omega
            have houts:=outs_le 2 fs (λf hf=>(hfl.2 f hf).2)
            have hlw:=HLOWN.out;have hsl:=HSN.out;have hfrn:=HFRN.out;obtain⟨mad,mc,hme⟩:=FE.out.shape;subst hme;obtain⟨aad,ac,hae⟩:=OA.out.shape (n:=sn) HFRN.out.symm;subst hae;have hrf:=reffollows_calls fs FR (.slice mad fs.length mc) (.slice aad sn ac) wr (FE.out.kept KK.out (Nat.le_refl _)).fs OA.out.hs (by omega) (by omega) hsm
            obtain⟨gl,hgl9⟩:∃ t,t = fs.length:=⟨_,rfl⟩;rw [<- hgl9] at hrf |-;have HRF:=hid hrf
            have HSE:=hid (λ(u:World) (kk:Kept w5.heap.size w5.heap.size w5 u)=>(by
             have h:=seeds_calls n LOW rb sl u (by rw [HLOW.out]; exact(NK.out.step kk).row) HLOW32.out (by omega)
             rw [<- HFR.out] at h
             exact h:Calls Try.prog 31 #[.pointer (some ⟨rb,0,none⟩)] u λe w'=>∃ v,e = .returned v/\OwnH w' u.heap.size v FR/\Kept u.heap.size u.heap.size u w'))
            have HKNW:=hid (λ(M:List (List UInt8)) (hM:Bk.Is fs FR M) (x:List UInt8) (hx:x.length = 32) (u:World) (kk:Kept w5.heap.size w5.heap.size w5 u) (y:Value) (hy:Hs u y FR)=>(by
             obtain⟨n',hn',S,h3⟩:=(NK.out.bk.book).kept kk;have hnn:=HNN.out;refine(knows_of (some ⟨bb,0,none⟩) fs FR x hx y u (λw2 k2=>all_calls b2 bb n' fs _ S FR y w2 (h3.kept k2) (hy.kept k2) (by omega) (by omega) (by omega) hsm)).mono ?_
             rintro e w' ⟨b,rfl,hb,k3⟩;refine⟨?_,k3⟩
             rw [show b = inList M x by
              rw [Bool.eq_iff_iff,hb,inList_mem,hM.mem]]:Calls Try.prog 32 #[.pointer (some ⟨bb,0,none⟩),.agg (bcells x).toArray,y] u λe w'=>e = .returned (.bool (inList M x))/\Kept u.heap.size u.heap.size u w'))
            have hgg:((sn:Int) == (sn:Int)) = true:=by simp
            clear hfl hp24 hpn houts hlw hsl hfrn hrf hgl9 hsm
            go_upto_region 30 with fail
            refine wp_region_lit ?_;iterate 2 (refine wW λK hK=>?_;go_simp;apply hK;clear hK K)
            refine wW λK hK=>?_;go_simp;go_at_call 22
            refine(HRF.out).mono ?_;rintro e w29 ⟨r2,M2,rfl,o29,hI2,k29⟩;have O9:=hid o29;have K29:=hid (KK.out.next1 k29);have HI2:=hid hI2;have hml:=is_length hI2;clear hI2 k29 o29;apply hK;clear hK K;refine wW λK hK=>?_;go_simp;apply hK;clear hK K;obtain⟨ml,hml9⟩:∃ t,t = M2.length:=⟨_,rfl⟩
            have HMLB:=hid (show M2.length < 1073741824 by
             have hfl:=HFSM.out;have houts:=outs_le 2 fs (λf hf=>(hfl.2 f hf).2)
             have h1:=HFRN.out;have h2:=HPN24.out;have h3:=HPN.out
             omega)
            obtain⟨sad,sc,hse⟩:=O9.out.shape (n:=ml) hml9.symm;subst hse;clear hml hml9
            go_upto_region 31 with fail
            refine wp_region_lit ?_;refine wW λK hK=>?_;go_simp;apply hK;clear hK K;refine wW λK hK=>?_;go_simp;go_at_call 31
            refine(HSE.out _ K29.out).mono ?_;rintro e w31 ⟨v24,rfl,o31,k31⟩;have O31:=hid o31;have K31:=hid (K29.out.next1 k31);have O9B:=hid (O9.out.kept k31 (Nat.le_refl _));clear o31 k31;apply hK;clear hK K;refine wW λK hK=>?_;go_simp;apply hK;clear hK K;obtain⟨_,xad,_,_,xc,hxe,_⟩:=O31.out.hs;rw [<- HFRN.out] at hxe;subst hxe;obtain⟨hk32,kad9,kg9,ko9,kc9,hke9,hkc9⟩:=(NK.out.step K31.out).key.hs;rw [<- HKN.out] at hke9;injection hke9 with e1 e2 e3
            clear e2;subst e1 e3;have HKC:=hid hkc9;have HK32:=hid hk32;have hkn9:(kn:Int)<=24:=by have h1:=HKN2.out; have h2:=HPN24.out; omega
            clear hkc9 hk32
            go_wp2_with fail
            go_loopw [25] (λs25 x=>∃ j:Nat,s25 = .int .i64 (j:Int)/\Hid (j<=kn)/\Hid (Kept w31.heap.size w31.heap.size w31 x)) (λs25 _=>kn - (RowKit.intOf s25).toNat)
            case atStart=>exact⟨0,rfl,hid (Nat.zero_le _),hid (Kept.refl _ _ _)⟩
            case round=>
             obtain⟨j,rfl,hj,KJ⟩:=hrel
             by_cases hlt:j < kn
             ·as_aux_lemma=>
               have hlti:(j:Int) < (kn:Int):=by omega
               have hj0:¬ (j:Int) < 0:=by omega
               have hjK:=hlt;rw [HKN.out] at hjK;obtain⟨had,hrg,hrr⟩:=HKC.out j hjK;subst had;have hx:=HK32.out _ (List.getElem_mem hjK);generalize K[j] = x9 at hrr hx;have HLT9:=hid hlt;have hkw:=λu (kk:Kept wr.heap.size wr.heap.size wr u)=>HKNW.out M2 HI2.out x9 hx u ((K31.out.next1 KJ.out).next1 kk) (.slice xad sn xc) (((O31.out.kept KJ.out (Nat.le_refl _)).kept kk (Nat.le_refl _)).hs)
               have hhas:=λu (kk:Kept wr.heap.size wr.heap.size wr u)=>has_calls M2 x9 hx (.slice sad ml sc) u (((O9B.out.kept KJ.out (Nat.le_refl _)).kept kk (Nat.le_refl _)).hs) HMLB.out
               obtain⟨E,hE⟩:∃ E,E = (bcells x9).toArray:=⟨_,rfl⟩;obtain⟨q,hq⟩:∃ q,q = inList M2 x9:=⟨_,rfl⟩;rw [<- hE,<- hq] at hkw hhas;have HKW:=hid hkw;have HHAS:=hid hhas;have HL1:=hid (λ(u:World) (kk:Kept wr.heap.size wr.heap.size wr u)=>(by rw [hE]; exact run_loadVar_mid u kg9 (ko9 + j * 32) 26 (bcells x9) _ (rangeAt_kept (KJ.out.next1 kk) hrr hrg (Nat.ne_of_lt hrg)) Try.underlying26 rfl (by rw [bcells_length,hx]; kernel_rfl):(loadVar 26 ⟨kg9,ko9 + j * 32,none⟩).run Try.prog u = .ok (.agg E) u))
               clear hrr hx hE hrg hlt hjK hkw hhas hq
               go_upto_region 33 with fail
               refine wp_region_lit ?_;iterate 4 (refine wW λK hK=>?_;go_simp;apply hK;clear hK K)
               go_upto_region 35 with fail
               refine wp_region_noPanic ?_;refine wp_region_held_drew (S:=λw'=>Kept wr.heap.size wr.heap.size wr w') (by kernel_rfl) ((Kept.refl _ _ _).drew) (λhH=>?_)
               refine tkE (i:=0) 141 rfl hH ?_
               apply Exists.intro;apply And.intro
               ·intro w9 _
                go_simp
                first | done | rfl
               simp only [sA,sB,sC];refine tkE (i:=1) 142 rfl hH ?_
               apply Exists.intro;apply And.intro
               ·intro w9 _
                go_simp
                first | done | rfl
               simp only [sA,sB,sC];refine tkE (i:=2) 143 rfl hH ?_
               apply Exists.intro;apply And.intro
               ·intro w9 _
                go_simp
                first | done | rfl
               simp only [sA,sB,sC];refine tkE (i:=3) 144 rfl hH ?_
               apply Exists.intro;apply And.intro
               ·intro w9 _
                go_simp
                first | done | rfl
               simp only [sA,sB,sC];refine tkA (i:=4) 145 (.agg E) rfl (yieldsIf_load_known (by kernel_rfl) 26 _ rfl (kg9) (ko9 + j * 32) rfl (.agg E) (λu hu=>HL1.out u hu)) hH ?_
               simp only [sA,sB,sC];refine tkE (i:=5) 146 rfl hH ?_
               apply Exists.intro;apply And.intro
               ·intro w9 _
                go_simp
                first | done | rfl
               simp only [sA,sB,sC];refine tkE (i:=7) 148 rfl hH ?_
               apply Exists.intro;apply And.intro
               ·intro w9 _
                go_simp
                first | done | rfl
               simp only [sA,sB,sC];refine tkE (i:=8) 149 rfl hH ?_
               apply Exists.intro;apply And.intro
               ·intro w9 _
                go_simp
                first | done | rfl
               simp only [sA,sB,sC];refine tkE (i:=9) 150 rfl hH ?_
               apply Exists.intro;apply And.intro
               ·intro w9 _
                go_simp
                first | done | rfl
               simp only [sA,sB,sC];refine tkE (i:=10) 151 rfl hH ?_
               apply Exists.intro;apply And.intro
               ·intro w9 _
                go_simp
                first | done | rfl
               simp only [sA,sB,sC];refine tkA (i:=11) 152 (.agg E) rfl (yieldsIf_load_known (by kernel_rfl) 26 _ rfl (kg9) (ko9 + j * 32) rfl (.agg E) (λu hu=>HL1.out u hu)) hH ?_
               simp only [sA,sB,sC];refine wpAnyH_ready (rs:=[6]) (by kernel_rfl) (by simp) ?_
               refine AllReadyH.cons rfl (λK hK=>?_) AllReadyH.nil
               rw [if_pos (by rfl)]
               go_simp
               go_wp2_with (go_at_call 32; refine(HKW.out _ hH).mono ?_; rintro e y6 ⟨rfl,ky6⟩)
               have K6:Kept wr.heap.size wr.heap.size wr y6:=hH.trans (ky6.mono hH.size (λi hi _=>Nat.ne_of_lt (Nat.lt_of_lt_of_le hi hH.size)))
               refine hK.out _ _ (K6) (λhH=>?_)
               clear hK K;refine wpAnyH_ready (rs:=[12]) (by kernel_rfl) (by simp) ?_
               refine AllReadyH.cons rfl (λK hK=>?_) AllReadyH.nil
               rw [if_pos (by rfl)]
               go_simp
               go_wp2_with (go_at_call 33; refine(HHAS.out _ K6).mono ?_; rintro e y12 ⟨rfl,ky12⟩)
               have K12:Kept wr.heap.size wr.heap.size wr y12:=K6.trans (ky12.mono K6.size (λi hi _=>Nat.ne_of_lt (Nat.lt_of_lt_of_le hi K6.size)))
               refine hK.out _ _ (K12) (λhH=>?_)
               clear hK K;refine tkE (i:=13) 154 rfl hH ?_
               apply Exists.intro;apply And.intro
               ·intro w9 _
                go_simp
                first | done | rfl
               simp only [sA,sB,sC];refine wpAnyH_done (by kernel_rfl) ?_ _
               refine NoPanic.normal ?_;have KE:=hid (KJ.out.next1 K12);clear hH K6 K12 ky6 ky12;go_wp2
               go_roundw
               case rel=>exact⟨j + 1,by simp,hid HLT9.out,KE⟩
               case measure=>have:=HLT9.out; simp [RowKit.intOf]; omega
             ·have hnl9:¬ (j:Int) < (kn:Int):=by omega
              clear hlt
              as_aux_lemma=>
               go_wp2;go_ret;exact⟨rfl,NK.out.kept.next1 (K31.out.next1 KJ.out)⟩
 ·have hgt:(ln:Int) > 24:=by omega
  clear hlen
  go_wp2_with (first
   | (go_at_call 23; refine(ppr_awake _).mono ?_; rintro e w3 ⟨rfl,k3⟩; have K3:=hid (K2.out.next1 k3))
   | (go_at_call 23; refine(ppr_awake _).mono ?_; rintro e w2 ⟨rfl,k2⟩; have K2:=hid (K1.out.next1 k2)))
  go_ret;exact⟨rfl,K3.out⟩
end Go.Proofs.Ytanfnafiofkihaa
