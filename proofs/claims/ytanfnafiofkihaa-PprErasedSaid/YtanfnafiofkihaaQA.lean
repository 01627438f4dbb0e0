/-
 PprStaysLaw; PprKeysLaw; PprBelows: several texts in one.
-/
import Derived.Test.YtanfnafiofkihaaGS
import Derived.Test.YtanfnafiofkihaaGT
import Derived.Test.YtanfnafiofkihaaGU
set_option maxRecDepth 100000
set_option maxHeartbeats 6400000
namespace Go.Proofs.Ytanfnafiofkihaa
open Go.RowKit Go.Lib
open List renaming setIfInBounds_toArray -> sA, set_cons_zero -> sB, set_cons_succ -> sC
open BigFrame renaming wpList_want -> wQ
theorem Kept.row {w w1 w2:World}{rb:Nat}(h:Kept w.heap.size w.heap.size w w1)(k:Kept w1.heap.size rb w1 w2)(hrb:w.heap.size<=rb):Kept w.heap.size w.heap.size w w2:=
 h.trans (k.mono h.size (λ_ hi _=>by omega))
theorem Kept.then {w w1 w2:World}(h:Kept w.heap.size w.heap.size w w1)(k:Kept w1.heap.size w1.heap.size w1 w2):Kept w.heap.size w.heap.size w w2:=
 h.trans (k.mono h.size (λ_ hi _=>Nat.ne_of_lt (Nat.lt_of_lt_of_le hi h.size)))
theorem keyD_size {s:List UInt8}(h:s.length = 32):(bcells s).toArray.size = 32:=by rw [List.size_toArray,bcells_length,h]
section
variable {P:Program} {ops:Array Oper} {rest:List Oper} {o:Oper} {a:Act} {w w':World} {Q:Exit->Act->World->Prop}
theorem wpList_build_pair (hgd:o.guard = none)(t:TypeId)(i j:Nat)(x y:Operand)(ho:o.op = .build t #[(i,x),(j,y)])(u v:Value){r:Value}(hx:a.eval x = u)(hy:a.eval y = v)(hr:(Instr.build t #[(i,u),(j,v)]).run P w = .ok r w)(hk:wpList P ops Q rest (a.put o.dst r) w):wpList P ops Q (o :: rest) a w:=by
 refine wpList_plain hgd λK hK=>?_
 unfold Oper.wp execOp;simp only [ho,List.map_toArray,List.map_cons,List.map_nil,hx,hy,Sem.run_bind,hr,Result.andThen_ok,Sem.run_pure];exact hK _ _ hk
end
def newRow (l:List UInt8)(bits:Nat):Array Value:=refRow l bits (.slice none 0 0)
def zerosRow:Array Value:=refRow (List.replicate 32 0) 0 (.slice none 0 0)
theorem zerosRow_size:zerosRow.size = 34:=by decide
theorem newRow_size {l:List UInt8}(h:l.length = 32)(bits:Nat):(newRow l bits).size = 34:=refRow_size h bits _
theorem newRow_all (l:List UInt8)(bits:Nat):(newRow l bits).all (·.oneCell') = true:=by
 have h:=bcells_all l;rw [newRow,refRow];simp only [List.all_toArray] at h |-;rw [List.all_append,h]
 rfl
theorem build_newRow (w:World)(l:List UInt8)(hl:l.length = 32)(bits:Nat):(Instr.build 60 #[(0,.agg (bcells l).toArray),(1,.int .i64 (bits:Int))]).run Try.prog w = .ok (.agg (newRow l bits)) w:=by
 generalize (bits:Int) = n
 revert l
 refine list32 ?_
 intros
 kernel_rfl
theorem alloc_newRow (w:World):(Instr.alloc 60 true (.tuple #[])).run Try.prog w = .ok (.pointer (some ⟨w.heap.size,0,none⟩)) (w.alloc (.cells zerosRow 60)):=by kernel_rfl
theorem refRowInfo {cs:Array Value}(h:cs.size = 34):(Try.prog.info? 60).map (·.size) = some cs.size:=by rw [h]; kernel_rfl
section
variable {P:Program} {ops:Array Oper} {rest:List Oper} {o:Oper} {a:Act} {w w':World} {Q:Exit->Act->World->Prop}
theorem wpList_build_three (hgd:o.guard = none)(t:TypeId)(x y z:Operand)(ho:o.op = .build t #[(0,x),(1,y),(2,z)])(u v q:Value){r:Value}(hx:a.eval x = u)(hy:a.eval y = v)(hz:a.eval z = q)(hr:(Instr.build t #[(0,u),(1,v),(2,q)]).run P w = .ok r w)(hk:wpList P ops Q rest (a.put o.dst r) w):wpList P ops Q (o :: rest) a w:=by
 refine wpList_plain hgd λK hK=>?_
 unfold Oper.wp execOp;simp only [ho,List.map_toArray,List.map_cons,List.map_nil,hx,hy,hz,Sem.run_bind,hr,Result.andThen_ok,Sem.run_pure];exact hK _ _ hk
end
theorem build_rseed (w:World)(x y:Value)(hx:∃ n,x = .int .i64 n)(hy:∃ n,y = .int .i64 n)(l:List UInt8)(hl:l.length = 32):(Instr.build 71 #[(0,x),(1,y),(2,.agg (bcells l).toArray)]).run Try.prog w = .ok (.agg (x :: y :: bcells l).toArray) w:=by
 obtain⟨n,rfl⟩:=hx;obtain⟨m,rfl⟩:=hy
 revert l
 refine list32 ?_
 intros
 kernel_rfl
theorem refbelow_calls (l:List UInt8)(hl:l.length = 32)(bits:Nat)(hb:bits<=32)(T:Value)(L:List Nat)(hL32:∀ t∈L,t < 4294967296)(hLn:L.length<=1000):∀ (k:Nat) (s:Sd),s.level + k = bits->Pp.Of l s->s.place < 2 ^ s.level->∀ w,Gones w T L ->
  Calls Try.prog 62 #[.agg (refRow l bits T),.int .i64 (s.level:Int),.int .i64 (s.place:Int)] w λe w'=>∃ v,e = .returned v/\OwnR w' w.heap.size v (Pp.low bits L k s)/\Kept w.heap.size w.heap.size w w'
 | k,s,hk,hof,hpl,w,hT=>by
  have hwc:=λw h=>whole_calls l hl s.level k (by omega) T L hL32 hLn s.place w h
  rw [hk] at hwc
  have hdw:(∀ t∈L,t / 2 ^ k≠s.place)↔Pp.Whole bits L s:=by
   have e:bits - s.level = k:=by omega
   constructor
   ·intro h t ht h2
    have:=Pp.has_div.1 h2;rw [e] at this;exact h t ht this
   ·intro h t ht h2
    exact h t ht (Pp.has_div.2 (by rw [e]; exact h2))
  have hself:s.self.length = 32:=by rw [hof]; exact Pp.path_length _ _ _ hl
  have hpl2:s.place < 2 ^ 32:=Nat.lt_of_lt_of_le hpl (Nat.pow_le_pow_right (by decide) (by omega))
  have hat:=λw=>at_calls l hl bits T s.level (by omega) s.place hpl2 w
  rw [<- hof] at hat;have hcell:=λ(w2:World) (b:Nat) h=>refRow_bits (w:=w2) (b:=b) (t:=60) hl (bits:=bits) (T:=T) h
  have hrs:=refRow_size hl bits T
  have hih1:∀ j,k = j + 1->∀ w,Gones w T L->Calls Try.prog 62 #[.agg (refRow l bits T),.int .i64 ((s.level:Int) + 1),.int .i64 (2 * (s.place:Int))] w λe w'=>∃ v,e = .returned v/\OwnR w' w.heap.size v (Pp.low bits L j (Pp.left s))/\Kept w.heap.size w.heap.size w w':=λj hj w hT=>by
   have:=refbelow_calls l hl bits hb T L hL32 hLn j (Pp.left s) (show s.level + 1 + j = bits by omega) hof.left (show 2 * s.place < 2 ^ (s.level + 1) by rw [Nat.pow_succ]; omega) w hT
   exact this
  have hih2:∀ j,k = j + 1->∀ w,Gones w T L->Calls Try.prog 62 #[.agg (refRow l bits T),.int .i64 ((s.level:Int) + 1),.int .i64 (2 * (s.place:Int) + 1)] w λe w'=>∃ v,e = .returned v/\OwnR w' w.heap.size v (Pp.low bits L j (Pp.right s))/\Kept w.heap.size w.heap.size w w':=λj hj w hT=>by
   have:=refbelow_calls l hl bits hb T L hL32 hLn j (Pp.right s) (show s.level + 1 + j = bits by omega) hof.right (show 2 * s.place + 1 < 2 ^ (s.level + 1) by rw [Nat.pow_succ]; omega) w hT
   exact this
  generalize refRow l bits T = RD at hwc hat hcell hrs hih1 hih2 |-;have HRI:=hid (refRowInfo hrs);have hk0:Kept w.heap.size w.heap.size w (w.alloc (.cells RD 60)):=(Kept.refl _ _ _).alloc (Nat.le_refl _) _
  have hT1:=hid (hT.kept hk0 (Nat.le_refl _));have hr1:=heap_new w (.cells RD 60)
  have hc1:=hcell _ _ hr1;have K1:=hid hk0;have R1:=hid hr1;have HLV:=hid hk;have HSF:=hid hself;have HAT:=hid hat;have HI1:=hid hih1;have HI2:=hid hih2;have HWC:=hid hwc;have HDW:=hid hdw;have HCELL:=hid hcell;obtain⟨lev,hlev⟩:∃ lev,lev = s.level:=⟨_,rfl⟩;obtain⟨pl,hple⟩:∃ pl,pl = s.place:=⟨_,rfl⟩;have hlv32:(lev:Int)<=32:=by omega
  have hpl4:(pl:Int) < 4294967296:=by omega
  have hbits:(bits:Int)<=32:=by omega
  have hll:=hid (show lev + k = bits by omega)
  rw [<- hlev,<- hple] at HWC HAT HI1 HI2 |-;rw [<- hple] at HDW;have HLEV:=hid hlev;have HPLE:=hid hple;have hSLEN:=hid (Pp.low_length bits L);clear hwc hdw hself hpl hpl2 hat hcell hrs hih1 hih2 hk0 hT hr1 hk hlev hple hof hL32 hl hb
  go_enter Try.func62,Try.ntmps62
  go_upto_region 1 with fail
  generalize w.alloc (.cells RD 60) = w1 at K1 R1 hc1 hT1 |-
  obtain⟨wa,hwa⟩:∃ wa,wa = w.heap.size:=⟨_,rfl⟩;rw [<- hwa] at R1 hc1 |-;have HWA:=hid hwa;clear hwa hc1
  by_cases hW:Pp.Whole bits L s
  ·have HWC2:=hid (λw h=>by have:=HWC.out w h; rw [decide_eq_true (HDW.out.2 hW)] at this; exact this)
   have HW:=hid hW;clear hW;refine wp_region_lit ?_;refine wpList_load_row rfl 60 (.tmp 3) rfl (wa) rfl 60 RD (0,0) _ (R1.out) Try.underlying60 rfl (HRI.out) ?_
   simp only [Act.put,sA,sB,sC];iterate 2 (refine wW λK hK=>?_;go_simp;apply hK;clear hK K)
   refine wW λK hK=>?_;go_simp;go_at_call 55
   refine(HWC2.out _ hT1.out).mono ?_;rintro e w2 ⟨rfl,k2⟩;apply hK;clear hK K;have K2:=hid (K1.out.next1 k2);have R2:=hid (rk R1.out k2);clear k2
   go_upto_region 2 with fail
   refine wp_region_lit ?_;iterate 2 (refine wW λK hK=>?_;go_simp;apply hK;clear hK K)
   refine wpList_load_row rfl 60 (.tmp 3) rfl (wa) rfl 60 RD (0,0) _ (R2.out) Try.underlying60 rfl (HRI.out) ?_
   simp only [Act.put,sA,sB,sC];iterate 2 (refine wW λK hK=>?_;go_simp;apply hK;clear hK K)
   refine wW λK hK=>?_;go_simp;go_at_call 56
   refine(HAT.out _).mono ?_;rintro e w3 ⟨rfl,k3⟩;apply hK;clear hK K;have K3:=hid (K2.out.next1 k3);clear k3;refine wpList_build_three rfl 71 _ _ _ rfl _ _ _ rfl rfl rfl (build_rseed _ _ _ ⟨_,rfl⟩ ⟨_,rfl⟩ _ HSF.out) ?_
   simp only [Act.put,sA,sB,sC];obtain⟨ti,tz,hti,htz,htzs,hts,htb⟩:=rseed_full;have hcs:(Value.int .i64 (lev:Int) :: .int .i64 (pl:Int) :: bcells s.self).toArray = (Pp.cells s).toArray:=by rw [HLEV.out,HPLE.out]; rfl
   rw [hcs];have hcsz:(Pp.cells s).toArray.size = 34:=by simp [Pp.cells,bcells_length,HSF.out]
   refine wpList_build_one rfl _ 68 71 rfl ti tz Try.underlying68 hti htz (Pp.cells s).toArray rfl (by rw [hcsz,hts]) (by rw [hts]; decide) (by rw [hts]; decide) ?_
   simp only [Act.put,sA,sB,sC];have hown:=OwnR.one (w:=w3) (base:=w.heap.size) s HSF.out K3.out.size;have k4:Kept w.heap.size w.heap.size w (w3.alloc (.cells (Pp.cells s).toArray 71)):=K3.out.alloc K3.out.size _
   clear hcs hcsz;generalize w3.alloc (.cells (Pp.cells s).toArray 71) = w4 at hown k4 |-
   refine wW λK hK=>?_;go_simp;apply hK;clear hK K;go_wp2;refine bodyPost_ret (results_tmp rfl _ _ _) rfl ?_;exact⟨_,rfl,by rw [Pp.low_whole HW.out]; exact hown,k4⟩
  ·have HWC2:=hid (λw h=>by have:=HWC.out w h; rw [decide_eq_false (λh2=>hW (HDW.out.1 h2))] at this; exact this)
   have HW:=hid hW;clear hW;refine wp_region_lit ?_;refine wpList_load_row rfl 60 (.tmp 3) rfl (wa) rfl 60 RD (0,0) _ (R1.out) Try.underlying60 rfl (HRI.out) ?_
   simp only [Act.put,sA,sB,sC];iterate 2 (refine wW λK hK=>?_;go_simp;apply hK;clear hK K)
   refine wW λK hK=>?_;go_simp;go_at_call 55
   refine(HWC2.out _ hT1.out).mono ?_;rintro e w2 ⟨rfl,k2⟩;apply hK;clear hK K;have K2:=hid (K1.out.next1 k2);have R2:=hid (rk R1.out k2);have T2:=hid (hT1.out.kept k2 (Nat.le_refl _));clear k2;have hc2:=HCELL.out _ _ R2.out
   cases hkc:k with
   | zero=>
    have hlb:(lev:Int) = (bits:Int):=by have:=hll.out; omega
    subst hkc;have HLB:=hid hlb;rw [<- hlb] at hc2;clear hlb;go_wp2;refine bodyPost_ret (results_tmp rfl _ _ _) rfl ?_;refine⟨_,rfl,?_,K2.out⟩;have e:Pp.low bits L 0 s = []:=by unfold Pp.low; rw [if_neg HW.out]
    rw [e];exact OwnR.nil _ _
   | succ j=>
    have hlb:((lev:Int) == (bits:Int)) = false:=by rw [beq_eq_false_iff_ne]; have:=hll.out; omega
    have HKC:=hid hkc;clear hkc;have HJ1:=hid (HI1.out j HKC.out);have HW1:=hid (show IntKind.i64.wrap ((lev:Int) + 1) = (lev:Int) + 1 by rw [IntKind.wrap_i64]; omega)
    have HW2:=hid (show IntKind.i64.wrap (2 * (pl:Int)) = 2 * (pl:Int) by rw [IntKind.wrap_i64]; omega)
    have HW3:=hid (show IntKind.i64.wrap (2 * (pl:Int) + 1) = 2 * (pl:Int) + 1 by rw [IntKind.wrap_i64]; omega)
    have HJ2:=hid (HI2.out j HKC.out)
    go_upto_region 3 with fail
    refine wp_region_lit ?_;iterate 4 (refine wW λK hK=>?_;go_simp;apply hK;clear hK K)
    refine wpList_nil ?_;clear hc2 hlb
    go_upto_region 6 with fail
    refine wp_region_lit ?_;refine wW λK hK=>?_;go_simp;apply hK;clear hK K;refine wpList_load_row rfl 60 (.tmp 3) rfl (wa) rfl 60 RD (0,0) _ (R2.out) Try.underlying60 rfl (HRI.out) ?_
    simp only [Act.put,sA,sB,sC];iterate 4 (refine wW λK hK=>?_;go_simp;apply hK;clear hK K)
    refine wW λK hK=>?_;go_simp;rw [HW1.out,HW2.out];go_at_call 62
    refine(HJ1.out _ T2.out).mono ?_;rintro e w3 ⟨v3,rfl,ho3,k3⟩;apply hK;clear hK K;have K3:=hid (K2.out.next1 k3);have R3:=hid (rk R2.out k3);have T3:=hid (T2.out.kept k3 (Nat.le_refl _));have hb3:wa < w2.heap.size:=lt_of_block R2.out;have hlen1:=hSLEN.out j (Pp.left s) (show s.level + 1 + j = bits by have:=HLV.out; have:=HKC.out; omega)
    have hlen2:=hSLEN.out j (Pp.right s) (show s.level + 1 + j = bits by have:=HLV.out; have:=HKC.out; omega)
    have hm:L.length * j<=1000 * 32:=Nat.mul_le_mul hLn (by have:=HLV.out; have:=HKC.out; have:=hbits; omega)
    obtain⟨v4,w4,ha4,ho4,hg4⟩:=append_rrows w3 (wa + 1) (.slice none 0 0) v3 [] _ (OwnR.nil _ _) (ho3.mono hb3) (Nat.le_trans hb3 k3.size) (by rw [List.length_nil]; omega)
    have kk4:Kept w3.heap.size w3.heap.size w3 w4:=⟨hg4.os,hg4.tape,hg4.output,hg4.size,λi hi _=>hg4.block i hi (by simp [Value.ownBlock])⟩
    have K4:=hid (K3.out.next1 kk4);have R4:=hid (rk R3.out kk4);have T4:=hid (T3.out.kept kk4 (Nat.le_refl _));have HA4:=hid ha4;have HO4:=hid ho4;have HB3:=hid hb3;have HL1:=hid hlen1;have HL2:=hid hlen2;have HM:=hid hm;clear k3 ho3 kk4 hg4 ho4 ha4 hb3 hlen1 hlen2 hm;refine wpList_append_known rfl (.tmp 24) (.tmp 30) 68 68 68 rfl rfl (.slice none 0 0) v3 rfl rfl (HA4.out) ?_
    simp only [Act.put,sA,sB,sC];refine wW λK hK=>?_;go_simp;apply hK;clear hK K
    go_upto_region 7 with fail
    refine wp_region_lit ?_;refine wW λK hK=>?_;go_simp;apply hK;clear hK K;refine wpList_load_row rfl 60 (.tmp 3) rfl (wa) rfl 60 RD (0,0) _ (R4.out) Try.underlying60 rfl (HRI.out) ?_
    simp only [Act.put,sA,sB,sC];iterate 5 (refine wW λK hK=>?_;go_simp;apply hK;clear hK K)
    refine wW λK hK=>?_;go_simp;rw [HW1.out,HW2.out,HW3.out];go_at_call 62
    refine(HJ2.out _ T4.out).mono ?_;rintro e w5 ⟨v5,rfl,ho5,k5⟩;apply hK;clear hK K;have hb5:wa < w4.heap.size:=lt_of_block R4.out;have ho45:=HO4.out.kept k5 (Nat.le_refl _);have K5:=K4.out.next1 k5;obtain⟨v6,w6,ha6,ho6,hg6⟩:=append_rrows w5 (wa + 1) v4 v5 _ _ ho45 (ho5.mono hb5) (Nat.le_trans hb5 k5.size) (by have:=HL1.out; have:=HL2.out; have:=HM.out; rw [List.nil_append]; omega)
    have K6:Kept w.heap.size w.heap.size w w6:=K5.trans ⟨hg6.os,hg6.tape,hg6.output,hg6.size,λi hi _=>hg6.block i (Nat.lt_of_lt_of_le hi K5.size) (λe=>by have:=(ho45.2.lt _ e.symm).1; have:=HWA.out; omega)⟩
    have HA6:=hid ha6;have HO6:=hid ho6;have HK6:=hid K6;clear k5 ho45 ho5 ho6 ha6 hg6 K5 K6 hb5;refine wpList_append_known rfl (.tmp 32) (.tmp 39) 68 68 68 rfl rfl v4 v5 rfl rfl (HA6.out) ?_
    simp only [Act.put,sA,sB,sC];refine wW λK hK=>?_;go_simp;apply hK;clear hK K;go_wp2;refine bodyPost_ret (results_tmp rfl _ _ _) rfl ?_;refine⟨_,rfl,?_,HK6.out⟩;have e:Pp.low bits L (j + 1) s = Pp.low bits L j (Pp.left s) ++ Pp.low bits L j (Pp.right s):=if_neg HW.out;rw [HKC.out,e];exact HO6.out.mono (by have:=HWA.out; omega)
theorem refseeds_calls (l:List UInt8)(hl:l.length = 32)(bits:Nat)(hb:bits<=32)(T:Value)(L:List Nat)(hL32:∀ t∈L,t < 4294967296)(hLn:L.length<=1000)(w:World)(hT:Gones w T L):
  Calls Try.prog 30 #[.agg (refRow l bits T)] w λe w'=>∃ v,e = .returned v/\OwnR w' w.heap.size v (Pp.low bits L bits ⟨0,0,l⟩)/\Kept w.heap.size w.heap.size w w':=by
 have hbl:=λw h=>refbelow_calls l hl bits hb T L hL32 hLn bits ⟨0,0,l⟩ (Nat.zero_add _) rfl (show(0:Nat) < 2 ^ 0 by decide) w h
 have hrs:=refRow_size hl bits T;generalize refRow l bits T = RD at hbl hrs |-;have HRI:=hid (refRowInfo hrs);have hk0:Kept w.heap.size w.heap.size w (w.alloc (.cells RD 60)):=(Kept.refl _ _ _).alloc (Nat.le_refl _) _
 have hT1:=hid (hT.kept hk0 (Nat.le_refl _));have R1:=hid (heap_new w (.cells RD 60))
 have K1:=hid hk0;have HBL:=hid hbl;clear hbl hrs hk0 hT hL32 hLn hb hl
 go_enter Try.func30,Try.ntmps30
 go_upto_region 1 with fail
 generalize w.alloc (.cells RD 60) = w1 at K1 R1 hT1 |-
 obtain⟨wa,hwa⟩:∃ wa,wa = w.heap.size:=⟨_,rfl⟩;rw [<- hwa] at R1 |-;have HWA:=hid hwa;clear hwa;refine wp_region_lit ?_;refine wpList_load_row rfl 60 (.tmp 1) rfl (wa) rfl 60 RD (0,0) _ (R1.out) Try.underlying60 rfl (HRI.out) ?_
 simp only [Act.put,sA,sB,sC];refine wW λK hK=>?_;go_simp;go_at_call 62
 refine(HBL.out _ hT1.out).mono ?_;rintro e w2 ⟨v,rfl,ho,k2⟩;apply hK;clear hK K;refine wW λK hK=>?_;go_simp;apply hK;clear hK K;go_wp2;refine bodyPost_ret (results_tmp rfl _ _ _) rfl ?_;exact⟨_,rfl,ho.mono K1.out.size,K1.out.next1 k2⟩
end Go.Proofs.Ytanfnafiofkihaa
