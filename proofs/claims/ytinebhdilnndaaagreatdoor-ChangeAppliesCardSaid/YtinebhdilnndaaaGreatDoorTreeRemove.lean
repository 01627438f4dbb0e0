/-
 The landed Remove, where a leaf is taken out.
-/
import Derived.Test.YtinebhdilnndaaaGreatDoorTreeAdd
import Derived.Test.YtinebhdilnndaaaGreatDoorGA
set_option maxRecDepth 100000
set_option maxHeartbeats 6400000
namespace Go.Proofs.YtinebhdilnndaaaGreatDoor
open Go.RowKit Go.Lib
open List renaming setIfInBounds_toArray -> sA, set_cons_zero -> sB, set_cons_succ -> sC
open BigFrame renaming wpList_want -> wQ
namespace Tt
def ends (L:List Lf):Nat->Nat
 | 0=>0
 | n + 1=>if nameAt L (n:Int) == 0 then ends L n else n + 1
theorem ends_le (L:List Lf):∀ n,ends L n<=n
 | 0=>Nat.le_refl _
 | n + 1=>by
  unfold ends
  split
  ·exact Nat.le_succ_of_le (ends_le L n)
  ·exact Nat.le_refl _
def remL (L:List Lf)(k:Nat):List Lf:=(L.set k Lf.zero).take (ends (L.set k Lf.zero) L.length)
def remP (L:List Lf)(P:List Pr)(k:Nat):List Pr:=(blanks (Bo.Direct L.length (k:Int)) P).take (ends (L.set k Lf.zero) L.length - 1)
end Tt
theorem flat_take (n:Nat)(R:List (List Value))(h:∀ r∈R,r.length = n)(m:Nat)(hm:m<=R.length):(R.take m).flatten = R.flatten.take (m * n):=by
 have h1:(R.take m).flatten.length = m * n:=by
  rw [flat_len n _ (λr hr=>h r (List.mem_of_mem_take hr)),List.length_take,Nat.min_eq_left hm]
 conv=>rhs; rw [<- List.take_append_drop m R,List.flatten_append,<- h1,List.take_left]
section
variable {w:World} {base:Nat} {T:TypeId} {n:Nat} {ad:Option Addr} {c:Nat}
theorem OwnC.addr {R:List (List Value)}{k:Nat}(h:OwnC w base T n (.slice ad k c) R):(ad = none\/∃ g,ad = some ⟨g,0,none⟩)/\R.length<=c:=by
 rcases h.2.2 with ⟨e,hn⟩ | ⟨g,cap,cur,e,_,_,hc,_⟩
 ·injection e with e1 e2 e3
  exact⟨.inl e1,by omega⟩
 ·injection e with e1 e2 e3
  exact⟨.inr ⟨g,e1⟩,by omega⟩
theorem OwnC.cut {R:List (List Value)}(h:OwnC w base T n (.slice ad R.length c) R)(m:Nat)(hm:m<=R.length):OwnC w base T n (.slice ad m c) (R.take m):=by
 refine⟨λr hr=>h.1 r (List.mem_of_mem_take hr),?_⟩
 have hl:(R.take m).length = m:=by rw [List.length_take,Nat.min_eq_left hm]
 rw [hl,flat_take n R h.len m hm];refine⟨by rw [List.length_take,flat_len n R h.len]; exact Nat.min_eq_left (Nat.mul_le_mul_right n hm),?_⟩
 rcases h.2.2 with ⟨e,hn⟩ | ⟨g,cap,cur,e,hb,hg,hc,hx,hs,ht⟩
 ·injection e with e1 e2 e3
  obtain rfl:m = 0:=by omega
  exact .inl ⟨by rw [e1,e3],rfl⟩
 ·injection e with e1 e2 e3
  refine .inr ⟨g,cap,cur,by rw [e1,e3],hb,hg,by omega,hx,hs,?_⟩
  rw [<- ht,List.take_take,Nat.min_eq_left (Nat.mul_le_mul_right n hm)]
end
section
variable {B:Nat->Prop} {w:World} {lad pad:Option Addr} {lc pc:Nat} {L:List Lf} {P:List Pr} {SL:List Value}
theorem Mine.cut (h:Mine B w (.slice lad L.length lc) (.slice pad P.length pc) L P SL)(n m:Nat)(hn:n<=L.length)(hm:m<=P.length):Mine B w (.slice lad n lc) (.slice pad m pc) (L.take n) (P.take m) (SL.take m):=by
 have hlo:=h.lo;have hpo:=h.po;rw [<- List.length_map (f:=Lf.cells)] at hlo hn;have h1:=hlo.cut n hn;rw [<- zip_len h] at hpo;have h2:=hpo.cut m (by rw [zip_len h]; exact hm)
 rw [<- List.map_take] at h1;rw [List.take_zipWith] at h2;have hmem:∀ s∈SL.take m,s∈SL:=λs hs=>List.mem_of_mem_take hs
 have el:(Value.slice lad n lc).ownBlock = (Value.slice lad L.length lc).ownBlock:=by cases lad <;> rfl
 have ep:(Value.slice pad m pc).ownBlock = (Value.slice pad P.length pc).ownBlock:=by cases pad <;> rfl
 exact { lok:=λl hl=>h.lok l (List.mem_of_mem_take hl)
         pok:=λp hp=>h.pok p (List.mem_of_mem_take hp)
         lo:=h1
         len:=by rw [List.length_take,List.length_take,h.len]
         po:=h2
         so:=λi p s hp hs=>by
          rw [List.getElem?_take] at hp hs
          split at hp
          ·rename_i hi
           rw [if_pos hi] at hs;exact h.so i p s hp hs
          ·cases hp
         dlp:=by rw [el,ep]; exact h.dlp
         dls:=λs hs=>by rw [el]; exact h.dls s (hmem s hs)
         dps:=λs hs=>by rw [ep]; exact h.dps s (hmem s hs)
         dss:=λi j s t hij hs ht=>by
          rw [List.getElem?_take] at hs ht
          split at hs
          ·split at ht
           ·exact h.dss i j s t hij hs ht
           ·cases ht
          ·cases hs
         ol:=by rw [el]; exact h.ol
         op:=by rw [ep]; exact h.op
         os:=λs hs=>h.os s (hmem s hs)
         bnd:=h.bnd }
end
section
variable {P:Program} {ops:Array Oper} {rest:List Oper} {o:Oper} {a:Act} {w:World} {Q:Exit->Act->World->Prop}
theorem run_cut (w:World)(T E:TypeId)(size:Nat)(hT:P.underlying T = some (.slice E))(hE:P.elem T = E)(hs:(P.info? E).map (·.size) = some size)(ad:Option Addr)(had:ad = none\/∃ g,ad = some ⟨g,0,none⟩)(k c n:Nat)(hn:n<=c):
  (Instr.sliceAt T (.slice ad k c) none (some (.int .i64 (n:Int))) none).run P w = .ok (.slice ad n c) w:=by
 subst hE;rw [run_sliceAt_slice w T _ _ _ _ hT,run_slice_h w T ad k c hT .i64 n (by omega) (by omega)]
 cases hq:P.info? (P.elem T) with
 | none=>simp [hq] at hs
 | some i=>
  have had2:ad.map (·.add (0 * i.size)) = ad:=by
   rcases had with rfl | ⟨g,rfl⟩
   ·rfl
   ·simp [Addr.add_lit]
  simp [sizeOf,typeInfo,hq,sliced];intro h0
  simpa using had2
theorem wpL_slice (hw:Region.wanted o (yielded ops a.tmps) = true)(t:TypeId)(x hi:Operand)(ho:o.op = .slice t x none (some hi) none)(u v r:Value)(hx:a.eval x = u)(hh:a.eval hi = v)(hr:(Instr.sliceAt t u none (some v) none).run P w = .ok r w)(hk:wpList P ops Q rest (a.put o.dst r) w):wpList P ops Q (o :: rest) a w:=by
 refine wpList_step λK hK=>?_
 rw [if_pos hw];unfold Oper.wp execOp;simp only [ho,hx,hh,Option.map_some,Option.map_none,Sem.run_bind,hr,Result.andThen_ok,Sem.run_pure];exact hK _ _ hk
theorem yieldsIf_slice_known {S:World->Prop}{op:Oper}(hw:Region.wanted op (yielded ops a.tmps) = true)(t:TypeId)(x hi:Operand)(ho:op.op = .slice t x none (some hi) none)(u v r:Value)(hx:a.eval x = u)(hh:a.eval hi = v)(hr:∀ w,S w->(Instr.sliceAt t u none (some v) none).run P w = .ok r w):YieldsIf P ops S op r a:=
 .inl ⟨hw,λw hS=>by
  unfold execOp
  simp only [ho,hx,hh,Option.map_some,Option.map_none,Sem.run_bind,hr w hS,Result.andThen_ok,Sem.run_pure]⟩
theorem wp_store_part_none {K:Act->World->Prop}(ty:TypeId)(x y:Operand)(ho:o.op = .store ty x y)(hd:o.dst = none)(b k:Nat)(cs:List Value)(t:TypeId)(v:Value)(hx:a.eval x = .pointer (some ⟨b,k,none⟩))(hy:a.eval y = v)
  (hg:w.heap[b]? = some (.cells cs.toArray t (0,0))) (hk:k < cs.length) (hv:v.oneCell' = true) (hi:(P.info? ty).map (·.size) = some 1) (hq:K a (w.setCell ⟨b,k,none⟩ v)):o.wp P a w K Q:=by
 have hrun:=run_part (P:=P) w ty b k cs t v hg hk hv hi;unfold Oper.wp execOp;simp only [ho,hx,hy,Instr.storeAt,Instr.sureAddr,Sem.run_bind,Sem.run_pure,Result.andThen_ok,hrun];have hq2:K (a.put o.dst undef) (w.setCell ⟨b,k,none⟩ v):=by rw [hd]; exact hq
 exact hq2
theorem nameAt_of {L:List Lf}{k:Nat}(h:k < L.length):Tt.nameAt L (k:Int) = L[k].name:=by
 unfold Tt.nameAt;rw [Int.toNat_natCast,List.getElem?_eq_getElem h]
 rfl
end
theorem remove_ok (lv pv:Value)(L:List Lf)(P:List Pr)(k:Nat)(w:World)(hL:Lvs w lv L)(hP:Pts w pv P)(hn:L.length<=1000)(hp:P.length<=1000)(hpl:∀ p∈P,p.loose.length<=1000)(hk:k < L.length)(hpe:P.length = L.length - 1)(hlk:Tt.lacks L P (k:Int) = 0):
  Calls Tryz.prog 57 #[.agg #[lv,pv],.int .i64 (k:Int)] w λe w'=>∃ lv' pv',e = .returned (.tuple #[.agg #[lv',pv'],.int .i64 0])/\Kept w.heap.size w.heap.size w w'/\∃ SL,Mine (λk=>k < w.heap.size) w' lv' pv' (Tt.remL L k) (Tt.remP L P k) SL:=by
 have HLK:=hid (λ(x:World) (kk:Kept w.heap.size w.heap.size w x)=>lacks_calls lv pv L P (k:Int) x (hL.kept kk) (hP.kept kk) hn hp hpl)
 rw [hlk] at HLK;have HCP:=hid (λ(x:World) (kk:Kept w.heap.size w.heap.size w x)=>copied_calls lv pv L P x (hL.kept kk) (hP.kept kk) hn hp hpl)
 obtain⟨lad,lc,rfl⟩:=hL.shape;obtain⟨pad,pc,rfl⟩:=hP.shape;obtain⟨ln,hln⟩:∃ ln,ln = L.length:=⟨_,rfl⟩;obtain⟨pn,hpn⟩:∃ pn,pn = P.length:=⟨_,rfl⟩;have hkl:(k:Int) < (ln:Int):=by omega
 have hk0:¬ (k:Int) < 0:=by omega
 rw [<- hln,<- hpn] at HLK HCP |-;have hln9:(ln:Int)<=1000:=by omega
 have HLN:=hid hln;have HPN:=hid hpn;have HN:=hid hn;have HPE:=hid hpe;have HKL:=hid hk;clear hL hP hn hp hpl hlk hln hpn hpe hk;have k1:=kA w (.cells #[.slice lad ln lc,.slice pad pn pc] 25)
 have t1:=heap_new w (.cells #[.slice lad ln lc,.slice pad pn pc] 25)
 have s1:(w.alloc (.cells #[.slice lad ln lc,.slice pad pn pc] 25)).heap.size = w.heap.size + 1:=by simp
 go_enter Tryz.func57,Tryz.ntmps57
 go_upto_region 1 with fail
 generalize w.alloc (.cells #[.slice lad ln lc,.slice pad pn pc] 25) = wa at k1 t1 s1 |-
 have k3:=kA wa (.cells #[.slice none 0 0,.slice none 0 0] 25)
 have r3:=heap_new wa (.cells #[.slice none 0 0,.slice none 0 0] 25)
 have t3:=rk t1 k3;generalize wa.alloc (.cells #[.slice none 0 0,.slice none 0 0] 25) = w1 at k3 r3 t3 |-
 have K1:=hid (k1.next1 k3);rw [s1] at r3
 (try rw [s1])
 obtain⟨tb,htb⟩:∃ tb,tb = w.heap.size:=⟨_,rfl⟩;obtain⟨rb,hrb⟩:∃ rb,rb = w.heap.size + 1:=⟨_,rfl⟩;rw [<- hrb] at r3
 (try rw [<- hrb])
 rw [<- htb] at t3
 (try rw [<- htb])
 have HTB:=hid (show ¬ tb < w.heap.size by omega)
 have HRB:=hid (show ¬ rb < w.heap.size by omega)
 have T1:=hid t3;have R1:=hid r3;clear k1 t1 s1 k3 r3 t3 htb hrb;refine wp_region_lit ?_;refine wLk 25 (.tmp 2) rfl (tb) (0) rfl (.agg #[.slice lad ln lc,.slice pad pn pc]) (run_loadVar_row w1 tb 25 25 _ (0,0) _ T1.out Tryz.underlying25 rfl treeInfo) ?_
 simp only [Act.put,sA,sB,sC];refine wW λK hK=>?_;go_simp;apply hK;clear hK K;refine wW λK hK=>?_;go_simp;go_at_call 84
 refine(HLK.out _ K1.out).mono ?_;rintro e w2 ⟨rfl,k2⟩;have K2:=hid (K1.out.next1 k2);have T2:=hid (rk T1.out k2);have R2:=hid (rk R1.out k2);clear k2;apply hK;clear hK K;refine wW λK hK=>?_;go_simp;apply hK;clear hK K
 go_upto_region 2 with fail
 refine wp_region_lit ?_;iterate 2 (refine wW λK hK=>?_;go_simp;apply hK;clear hK K)
 go_upto_region 4 with fail
 refine wp_region_lit ?_;refine wLk 25 (.tmp 2) rfl (tb) (0) rfl (.agg #[.slice lad ln lc,.slice pad pn pc]) (run_loadVar_row w2 tb 25 25 _ (0,0) _ T2.out Tryz.underlying25 rfl treeInfo) ?_
 simp only [Act.put,sA,sB,sC];refine wW λK hK=>?_;go_simp;go_at_call 85
 refine(HCP.out _ K2.out).mono ?_;rintro e w6 ⟨lv6,pv6,rfl,k6,SL6,m6⟩;obtain⟨lad6,lc6,rfl⟩:=m6.lvs.shape;obtain⟨pad6,pc6,rfl⟩:=m6.pts.shape;rw [<- HLN.out,<- HPN.out] at m6 |-;have HK56:=hid k6.size;apply hK;clear hK K;have K6:=hid (K2.out.next1 k6);have T6:=hid (rk T2.out k6);have R6:=hid (rk R2.out k6);clear k6;refine @wpL_alloc _ _ _ _ _ _ _ _ ?_ 25 rfl _ (alloc_tree _) ?_;kernel_rfl
 simp only [Act.put,sA,sB,sC];refine wpList_store_row rfl 25 _ _ rfl (w6.heap.size) #[.slice lad6 ln lc6,.slice pad6 pn pc6] rfl rfl 25 #[.slice none 0 0,.slice none 0 0] (heap_new _ _) (treeInfo) (rfl) (tree_all _ _ _ _ _ _) ?_
 simp only [Act.put];rw [World.setRow_alloc_new];have m7:=m6.box (.cells #[.slice lad6 ln lc6,.slice pad6 pn pc6] 25)
 have hb7:=heap_new w6 (.cells #[.slice lad6 ln lc6,.slice pad6 pn pc6] 25)
 have k7:=kA w6 (.cells #[.slice lad6 ln lc6,.slice pad6 pn pc6] 25)
 obtain⟨mb,hmb⟩:∃ mb,mb = w6.heap.size:=⟨_,rfl⟩;obtain⟨sz,hsz⟩:∃ sz,sz = w2.heap.size:=⟨_,rfl⟩;have hs5:=K2.out.size;have hs6:=K6.out.size;have hs56:sz<=w6.heap.size:=by rw [hsz]; exact HK56.out
 have HSZW:=hid (show w.heap.size<=sz by omega)
 have HMB:=hid (show ¬ mb < w.heap.size by omega)
 have HBR:=hid (show rb < sz by rw [hsz]; exact lt_of_block R2.out)
 have HRM:=hid (show rb≠mb by have:=HBR.out; omega)
 generalize w6.alloc (.cells #[.slice lad6 ln lc6,.slice pad6 pn pc6] 25) = w7 at m7 hb7 k7 |-
 rw [<- hmb] at m7 hb7
 (try rw [<- hmb])
 rw [<- hsz] at m7;have K7:=hid (K6.out.next1 k7);have R7:=hid (rk R6.out k7);clear k7;have F7:=hid (K7.out.fr (B:=λk=>k < w.heap.size))
 obtain⟨g8,cap8,he8,hgb8,hth8,hm8,hg8⟩:=m7.leaf k HKL.out Lf.zero Lf.zero_ok;rw [<- HLN.out] at he8;injection he8 with hea hez hec
 subst hea;clear hez hec;have HTH:=hid hth8;have hb8:=(hg8.block mb (lt_of_block hb7) (λe=>hgb8 (.inr (Option.some.inj e).symm))).trans hb7
 have hr8:=(hg8.block rb (lt_of_block R7.out) (λe=>hgb8 (.inl (by rw [<- Option.some.inj e]; exact HBR.out)))).trans R7.out
 have hf8:=F7.out.trans (grown_fr (B:=λk=>k < w.heap.size) hg8 (λk e b=>by cases e; exact hgb8 (.inl (Nat.lt_of_lt_of_le b HSZW.out))))
 have B7:=hid hb7;have M8:=hid hm8;have B8:=hid hb8;have R8:=hid hr8;have F8:=hid hf8;clear m6 m7 hb7 hmb hsz hs5 hs6 hs56 K6 hgb8 hth8 hm8 hg8 hb8 hr8 hf8;have t0:=two_cell0 B7.out
 go_upto_region 5 with fail
 refine wp_region_lit ?_;iterate 3 (refine wW λK hK=>?_;go_simp;apply hK;clear hK K)
 refine @wpL_build0 _ _ _ _ _ _ _ ?_ 48 rfl _ (build_leaf0 _) ?_;kernel_rfl
 simp only [Act.put,sA,sB,sC];refine wW λK hK=>?_;go_simp;apply hK;clear hK K;refine @wpL_store_mid _ _ _ _ _ _ _ ?_ 48 _ _ rfl (g8) (k * 97) Lf.zero.cells.toArray rfl rfl (by rw [Lf.size Lf.zero_ok]; exact HTH.out) (leafInfo (Lf.size Lf.zero_ok)) Lf.zero.all ?_;kernel_rfl
 simp only [Act.put];generalize w7.setCells g8 (k * 97) Lf.zero.cells = w8 at M8 B8 R8 F8 |-;clear t0 HTH;obtain⟨L1,hL1⟩:∃ L1,L1 = L.set k Lf.zero:=⟨_,rfl⟩;rw [<- hL1] at M8;have hln1:L1.length = ln:=by rw [hL1,List.length_set,HLN.out]
 have HBA:=hid (blankabove_calls _ _ _ L1 P SL6 (k:Int) w8 M8.out (by rw [hln1,HLN.out]; exact HN.out) (by rw [hln1,HLN.out]; exact HPE.out))
 rw [hln1] at HBA;have HL1:=hid hL1;have HLN1:=hid hln1;clear hL1 hln1
 go_upto_region 6 with fail
 refine wp_region_lit ?_;refine wLk 25 (.tmp 7) rfl (mb) (0) rfl (.agg #[.slice (some ⟨g8,0,none⟩) ln lc6,.slice pad6 pn pc6]) (run_loadVar_row w8 mb 25 25 _ (0,0) _ B8.out Tryz.underlying25 rfl treeInfo) ?_
 simp only [Act.put,sA,sB,sC];refine wW λK hK=>?_;go_simp;apply hK;clear hK K;refine wW λK hK=>?_;go_simp;go_at_call 86
 refine(HBA.out).mono ?_;rintro e w9 ⟨rfl,f9,SL9,m9⟩;apply hK;clear hK K;have B9:=hid ((f9.block mb (lt_of_block B8.out) (.inr rfl)).trans B8.out);have R9:=hid ((f9.block rb (lt_of_block R8.out) (.inl HBR.out)).trans R8.out);have F9:=hid (F8.out.trans (f9.mono (λk b=>.inl (Nat.lt_of_lt_of_le b HSZW.out))))
 obtain⟨P1,hP1⟩:∃ P1,P1 = Tt.blanks (Bo.Direct (ln:Int) (k:Int)) P:=⟨_,rfl⟩;rw [<- hP1] at m9;have HPN1:=hid (show P1.length = pn by rw [hP1,Tt.blanks_length,HPN.out])
 have HP1:=hid hP1;have M9:=hid m9;clear f9 m9 hP1;have t0:=two_cell0 B9.out
 go_upto_region 7 with fail
 refine wp_region_lit ?_;iterate 4 (refine wW λK hK=>?_;go_simp;apply hK;clear hK K)
 go_wp2;clear t0
 go_loopw [8] (λs8 wr=>∃ n:Nat,s8 = .int .i64 (n:Int)/\Hid (n<=ln)/\Hid (Tt.ends L1 ln = Tt.ends L1 n)/\Hid (Mine (λk=>k < sz\/k = mb) wr (.slice (some ⟨g8,0,none⟩) ln lc6) (.slice pad6 pn pc6) L1 P1 SL9)/\Hid (Frm (λk=>k < w.heap.size) w wr)/\Hid (wr.heap[mb]? = some (.cells #[.slice (some ⟨g8,0,none⟩) ln lc6,.slice pad6 pn pc6] 25 (0,0)))/\Hid (wr.heap[rb]? = some (.cells #[.slice none 0 0,.slice none 0 0] 25 (0,0)))) (λs8 _=>(RowKit.intOf s8).toNat)
 case atStart=>exact⟨ln,rfl,hid (Nat.le_refl _),hid rfl,M9,F9,B9,R9⟩
 case round=>
  obtain⟨n,rfl,hi,HEN,HM,HF,HB,HR⟩:=hrel;have t0:=two_cell0 HB.out
  by_cases hn0:n = 0
  ·have HNZ:=hid hn0
   have hgt:¬ (0:Int) < (n:Int):=by omega
   have hgt2:¬ 0 < n:=by omega
   clear hn0
   go_upto_region 8 with fail
   refine wp_region_lit ?_;iterate 3 (refine wW λK hK=>?_;go_simp;apply hK;clear hK K)
   (iterate 7 (refine @wpList_skip _ _ _ _ _ _ _ ?_ ?_;kernel_rfl;simp only [Act.put,sA,sB,sC]));refine wW λK hK=>?_;go_simp;apply hK;clear hK K;clear hgt hgt2 t0;have HEND:=hid (show Tt.ends L1 ln = n from(HEN.out.trans (by rw [HNZ.out]; rfl)))
   have HNL:=hid (show n<=ln from hi.out);have hcm:=HM.out;rw [<- HLN1.out,<- HPN1.out] at hcm;have hla:=OwnC.addr HM.out.lo;have hpa:=OwnC.addr HM.out.po;rw [List.length_map,HLN1.out] at hla;rw [zip_len HM.out,HPN1.out] at hpa;have hql:=HNL.out;have hpe9:=HPE.out;rw [<- HPN.out,<- HLN.out] at hpe9;have HCM:=hid (hcm.cut n (n - 1) (by rw [HLN1.out]; exact hql) (by rw [HPN1.out]; omega))
   have HS1:=hid (run_cut wr 22 48 97 Tryz.underlying22 (by kernel_rfl) (by kernel_rfl) (some ⟨g8,0,none⟩) hla.1 ln lc6 n (by omega))
   have HS2:=hid (λw=>run_cut (P:=Tryz.prog) w 23 68 66 Tryz.underlying23 (by kernel_rfl) (by kernel_rfl) pad6 hpa.1 pn pc6 (n - 1) (by omega))
   have HPCN:=hid (λw=>parentcount_calls n (by have:=HLN.out; have:=HN.out; omega) w)
   obtain⟨q1,hq1⟩:∃ q1,q1 = n - 1:=⟨_,rfl⟩;rw [<- hq1] at HCM HS2 HPCN;have HQ1:=hid hq1;clear hcm hla hpa hql hpe9 hq1;have t0:=two_cell0 HB.out
   go_upto_region 10 with fail
   refine wp_region_lit ?_;iterate 3 (refine wW λK hK=>?_;go_simp;apply hK;clear hK K)
   refine @wpL_slice _ _ _ _ _ _ _ ?_ 22 (.tmp 43) (.tmp 44) rfl (.slice (some ⟨g8,0,none⟩) ln lc6) (.int .i64 (n:Int)) (.slice (some ⟨g8,0,none⟩) n lc6) rfl rfl HS1.out ?_;kernel_rfl
   simp only [Act.put,sA,sB,sC];refine wW λK hK=>?_;go_simp;apply hK;clear hK K;refine @wpL_store_part _ _ _ _ _ _ _ ?hw34033b 22 _ _ rfl (mb) 0 [.slice (some ⟨g8,0,none⟩) ln lc6,.slice pad6 pn pc6] 25 (.slice (some ⟨g8,0,none⟩) n lc6) rfl rfl (HB.out) (by simp) rfl (by kernel_rfl) ?_
   case hw34033b=>kernel_rfl
   simp only [Act.put];have hb10:=cells_set (cs:=[.slice (some ⟨g8,0,none⟩) ln lc6,.slice pad6 pn pc6]) HB.out 0 (.slice (some ⟨g8,0,none⟩) n lc6);have g10:=grown_set wr mb 0 (.slice (some ⟨g8,0,none⟩) n lc6);have R10:=hid ((g10.block rb (lt_of_block HR.out) (λe=>HRM.out (Option.some.inj e))).trans HR.out)
   have M10:=hid (HCM.out.aside (b:=mb) (.inr rfl) g10);have F10:=hid (HF.out.trans (grown_fr (B:=λk=>k < w.heap.size) g10 (λk e b=>by cases e; exact HMB.out b)))
   have B10:Hid ((wr.setCell ⟨mb,0,none⟩ (.slice (some ⟨g8,0,none⟩) n lc6)).heap[mb]? = some (.cells #[.slice (some ⟨g8,0,none⟩) n lc6,.slice pad6 pn pc6] 25 (0,0))):=hb10
   generalize wr.setCell ⟨mb,0,none⟩ (.slice (some ⟨g8,0,none⟩) n lc6) = w10 at R10 M10 F10 B10 |-;clear hb10 g10 t0
   go_upto_region 11 with fail
   refine wp_region_noPanic ?_;obtain⟨wd,hwd⟩:∃ wd,wd = w10.drew:=⟨_,rfl⟩;have hkd:Kept w10.heap.size w10.heap.size w10 wd:=by rw [hwd]; exact(Kept.refl _ _ _).drew
   have BD:=hid (rk B10.out hkd);have RD:=hid (rk R10.out hkd);have MD:=hid (M10.out.kept hkd);have FD:=hid (F10.out.trans hkd.fr);have HLP:=hid (λ(w':World) (h:w' = wd)=>show(loadVar 23 ⟨mb,1,none⟩).run Tryz.prog w' = .ok (.slice pad6 pn pc6) w' by rw [h]; exact load_slice (d:=.int .u8) (two_cell1 BD.out) (.inr rfl) rfl)
   refine wp_region_heldTo 6 (S:=λw'=>w' = wd) (by kernel_rfl) (by rw [hwd]) (λhH=>?_)
   rw [<- hwd] at hH |-;clear hwd hkd;refine tkT (i:=0) 47 (.pointer (some ⟨mb,1,none⟩)) rfl (.inl ⟨by kernel_rfl,λw9 _=>by go_simp⟩) hH ?_
   simp only [sA,sB,sC];refine tkT (i:=1) 48 (.slice pad6 pn pc6) rfl (yieldsIf_load_known (by kernel_rfl) 23 _ rfl mb 1 rfl (.slice pad6 pn pc6) HLP.out) hH ?_
   simp only [sA,sB,sC];refine tkT (i:=2) 49 (.int .i64 (n:Int)) rfl (.inl ⟨by kernel_rfl,λw9 _=>by go_simp⟩) hH ?_
   simp only [sA,sB,sC];refine heldTo_one (i:=3) (by kernel_rfl) rfl (λK hK=>?_)
   rw [if_pos (by rfl)]
   go_simp
   go_wp2_with (go_at_call 28; refine(HPCN.out _).mono ?_; rintro e wx ⟨rfl,hwx⟩; subst wx)
   refine hK.out _ _ rfl (λ_=>?_)
   clear hK K;refine tkT (i:=4) 51 (.slice pad6 q1 pc6) rfl (yieldsIf_slice_known (by kernel_rfl) 23 (.tmp 48) (.tmp 50) rfl (.slice pad6 pn pc6) (.int .i64 (q1:Int)) (.slice pad6 q1 pc6) rfl rfl (λw _=>HS2.out w)) rfl ?_
   simp only [sA,sB,sC];refine tkT (i:=5) 52 (.pointer (some ⟨mb,1,none⟩)) rfl (.inl ⟨by kernel_rfl,λw9 _=>by go_simp⟩) rfl ?_
   simp only [sA,sB,sC];refine heldTo_last (by kernel_rfl) rfl (λK hK=>?_)
   rw [if_pos (by rfl)]
   refine wp_store_part_none 23 _ _ rfl rfl mb 1 [.slice (some ⟨g8,0,none⟩) n lc6,.slice pad6 pn pc6] 25 (.slice pad6 q1 pc6) rfl rfl BD.out (by simp) rfl (by kernel_rfl) ?_
   refine hK.out _ _ ?_;clear hK K;refine heldTo_done (by kernel_rfl) ?_ _
   refine NoPanic.normal ?_;have hb11:=cells_set (cs:=[.slice (some ⟨g8,0,none⟩) n lc6,.slice pad6 pn pc6]) BD.out 1 (.slice pad6 q1 pc6);have g11:=grown_set wd mb 1 (.slice pad6 q1 pc6);have R11:=hid ((g11.block rb (lt_of_block RD.out) (λe=>HRM.out (Option.some.inj e))).trans RD.out)
   have M11:=hid (MD.out.aside (b:=mb) (.inr rfl) g11);have F11:=hid (FD.out.trans (grown_fr (B:=λk=>k < w.heap.size) g11 (λk e b=>by cases e; exact HMB.out b)))
   have B11:Hid ((wd.setCell ⟨mb,1,none⟩ (.slice pad6 q1 pc6)).heap[mb]? = some (.cells #[.slice (some ⟨g8,0,none⟩) n lc6,.slice pad6 q1 pc6] 25 (0,0))):=hb11
   clear hb11 g11;generalize wd.setCell ⟨mb,1,none⟩ (.slice pad6 q1 pc6) = w11 at R11 M11 F11 B11 |-
   go_upto_region 12 with fail
   refine wp_region_lit ?_;refine wLk 25 (.tmp 7) rfl (mb) (0) rfl (.agg #[.slice (some ⟨g8,0,none⟩) n lc6,.slice pad6 q1 pc6]) (run_loadVar_row w11 mb 25 25 _ (0,0) _ B11.out Tryz.underlying25 rfl treeInfo) ?_
   simp only [Act.put,sA,sB,sC];refine wpList_store_row rfl 25 _ _ rfl (rb) #[.slice (some ⟨g8,0,none⟩) n lc6,.slice pad6 q1 pc6] rfl rfl 25 #[.slice none 0 0,.slice none 0 0] R11.out treeInfo rfl (tree_all _ _ _ _ _ _) ?_
   simp only [Act.put];refine wW λK hK=>?_;go_simp;apply hK;clear hK K;have R12:=setRow_heap w11 rb _ #[.slice (some ⟨g8,0,none⟩) n lc6,.slice pad6 q1 pc6] _ _ R11.out;have g12:=grown_setRow w11 rb #[.slice (some ⟨g8,0,none⟩) n lc6,.slice pad6 q1 pc6];have M12:=hid (M11.out.aside (b:=rb) (.inl HBR.out) g12);have F12:=hid ((F11.out.trans (grown_fr (B:=λk=>k < w.heap.size) g12 (λk e b=>by cases e; exact HRB.out b))).kept (λk hk=>hk))
   generalize w11.setRow rb #[.slice (some ⟨g8,0,none⟩) n lc6,.slice pad6 q1 pc6] = wz at R12 g12 M12 F12 |-;go_wp2;refine bodyPost_ret (results_row2 rfl _ _ rb 25 _ (0,0) _ rfl R12 Tryz.underlying25 rfl treeInfo) rfl ?_
   refine⟨_,_,rfl,F12.out,SL9.take q1,?_⟩;have hm:=M12.out;have hre:Tt.ends (L.set k Lf.zero) L.length = n:=by rw [<- HL1.out,<- HLN.out]; exact HEND.out
   have e1:Tt.remL L k = L1.take n:=by rw [Tt.remL,hre,<- HL1.out]
   have e2:Tt.remP L P k = P1.take q1:=by rw [Tt.remP,hre,<- HLN.out,<- HP1.out,HQ1.out]
   rw [e1,e2];exact hm.mono (λ_ b=>.inl (Nat.lt_of_lt_of_le b HSZW.out))
  ·obtain⟨j,hj⟩:∃ j,n = j + 1:=⟨n - 1,by omega⟩
   have hjl:(j:Int) < (ln:Int):=by have:=hi.out; omega
   have hj0:¬ (j:Int) < 0:=by omega
   have hjL:j < L1.length:=by rw [HLN1.out]; omega
   have hgt:(0:Int) < (n:Int):=by omega
   have hgt2:0 < n:=by omega
   obtain⟨lad9,lg9,lo9,lc9,hv9,hc9,_⟩:=HM.out.lvs;obtain⟨ha9,hg9,hok9,hr9⟩:=hc9 j hjL;obtain⟨ad0,g0,c0,hv0,hc0,_⟩:=HM.out.lo.at;obtain⟨ha0,_,hg0,hr0⟩:=hc0 j (by rw [List.length_map]; exact hjL)
   subst ha0;injection hv0 with hx9 hy9 hz9
   injection hx9 with hx9
   injection hx9 with hx9 hw9 hu9
   subst hx9;rw [List.getElem_map] at hr0;have HLD:=hid (run_loadVar_mid wr g8 (0 + j * 97) 48 L1[j].cells _ hr0 Tryz.underlying48 rfl (by have:=leafInfo (Lf.size hok9); simpa using this))
   rw [Nat.zero_add] at HLD;have HIB:=hid (isblank_calls L1[j]);rw [<- nameAt_of hjL] at HIB;obtain⟨D,hD⟩:∃ D,D = L1[j].cells.toArray:=⟨_,rfl⟩;rw [<- hD] at HIB HLD;obtain⟨nm,hN⟩:∃ nm,nm = Tt.nameAt L1 (j:Int):=⟨_,rfl⟩;rw [<- hN] at HIB;have hen:Tt.ends L1 n = if nm == 0 then Tt.ends L1 j else n:=by rw [hj,Tt.ends,<- hN]
   have HJW:=hid (show IntKind.i64.wrap ((n:Int) - 1) = (j:Int) by rw [IntKind.wrap_i64]; omega)
   have HJ64:=hid (show wrap64 ((n:Int) - 1) = (j:Int) by first | (simp only [wrap64]; omega) | (unfold wrap64; omega) | (rw [<- HJW.out]; rfl))
   have HEN2:=hid (HEN.out.trans hen);have HJN:=hid hj;clear hj hn0 hr9 hok9 hg9 hc9 hD hN hen HEN hjL hv9 ha9 hy9 hz9 hw9 hu9 hc0 hg0 hr0
   cases hnb:(nm == 0) with
   | true=>
    have HNB:=hid hnb;rw [hnb] at HIB;clear hnb
    go_upto_region 8 with fail
    refine wp_region_lit ?_;iterate 7 (refine wW λK hK=>?_;go_simp;apply hK;clear hK K)
    rw [HJW.out];refine wW λK hK=>?_;go_simp;apply hK;clear hK K;refine wLk 48 (.tmp 36) rfl (g8) (j * 97) rfl (.agg D) (HLD.out) ?_
    simp only [Act.put,sA,sB,sC];refine wW λK hK=>?_;go_simp;go_at_call 29
    refine(HIB.out _).mono ?_;rintro e w3 ⟨rfl,k3⟩;apply hK;clear hK K;have M3:=hid (HM.out.kept k3);have F3:=hid (HF.out.trans k3.fr);have B3:=hid (rk HB.out k3);have R3:=hid (rk HR.out k3);clear k3 t0 hgt hgt2;refine wW λK hK=>?_;go_simp;apply hK;clear hK K;go_wp2
    go_roundw
    case rel=>exact⟨j,by rw [HJ64.out],hid (by have:=HJN.out; have:=hi.out; omega),hid (by have:=HEN2.out; rw [if_pos HNB.out] at this; exact this),M3,F3,B3,R3⟩
    case measure=>rw [HJ64.out]; have:=HJN.out; simp [RowKit.intOf]; omega
   | false=>
    have HNB:=hid hnb;rw [hnb] at HIB;clear hnb
    go_upto_region 8 with fail
    refine wp_region_lit ?_;iterate 7 (refine wW λK hK=>?_;go_simp;apply hK;clear hK K)
    rw [HJW.out];refine wW λK hK=>?_;go_simp;apply hK;clear hK K;refine wLk 48 (.tmp 36) rfl (g8) (j * 97) rfl (.agg D) (HLD.out) ?_
    simp only [Act.put,sA,sB,sC];refine wW λK hK=>?_;go_simp;go_at_call 29
    refine(HIB.out _).mono ?_;rintro e w3 ⟨rfl,k3⟩;apply hK;clear hK K;have M3:=hid (HM.out.kept k3);have F3:=hid (HF.out.trans k3.fr);have B3:=hid (rk HB.out k3);have R3:=hid (rk HR.out k3);clear k3 t0 hgt hgt2;refine wW λK hK=>?_;go_simp;apply hK;clear hK K;have HEND:=hid (show Tt.ends L1 ln = n from(by have:=HEN2.out; rw [if_neg (by rw [HNB.out]; decide)] at this; exact this))
    have HNL:=hid (show n<=ln from hi.out);have hcm:=M3.out;rw [<- HLN1.out,<- HPN1.out] at hcm;have hla:=OwnC.addr M3.out.lo;have hpa:=OwnC.addr M3.out.po;rw [List.length_map,HLN1.out] at hla;rw [zip_len M3.out,HPN1.out] at hpa;have hql:=HNL.out;have hpe9:=HPE.out;rw [<- HPN.out,<- HLN.out] at hpe9;have HCM:=hid (hcm.cut n (n - 1) (by rw [HLN1.out]; exact hql) (by rw [HPN1.out]; omega))
    have HS1:=hid (run_cut w3 22 48 97 Tryz.underlying22 (by kernel_rfl) (by kernel_rfl) (some ⟨g8,0,none⟩) hla.1 ln lc6 n (by omega))
    have HS2:=hid (λw=>run_cut (P:=Tryz.prog) w 23 68 66 Tryz.underlying23 (by kernel_rfl) (by kernel_rfl) pad6 hpa.1 pn pc6 (n - 1) (by omega))
    have HPCN:=hid (λw=>parentcount_calls n (by have:=HLN.out; have:=HN.out; omega) w)
    obtain⟨q1,hq1⟩:∃ q1,q1 = n - 1:=⟨_,rfl⟩;rw [<- hq1] at HCM HS2 HPCN;have HQ1:=hid hq1;clear hcm hla hpa hql hpe9 hq1;have t0:=two_cell0 B3.out
    go_upto_region 10 with fail
    refine wp_region_lit ?_;iterate 3 (refine wW λK hK=>?_;go_simp;apply hK;clear hK K)
    refine @wpL_slice _ _ _ _ _ _ _ ?_ 22 (.tmp 43) (.tmp 44) rfl (.slice (some ⟨g8,0,none⟩) ln lc6) (.int .i64 (n:Int)) (.slice (some ⟨g8,0,none⟩) n lc6) rfl rfl HS1.out ?_;kernel_rfl
    simp only [Act.put,sA,sB,sC];refine wW λK hK=>?_;go_simp;apply hK;clear hK K;refine @wpL_store_part _ _ _ _ _ _ _ ?hw34062b 22 _ _ rfl (mb) 0 [.slice (some ⟨g8,0,none⟩) ln lc6,.slice pad6 pn pc6] 25 (.slice (some ⟨g8,0,none⟩) n lc6) rfl rfl (B3.out) (by simp) rfl (by kernel_rfl) ?_
    case hw34062b=>kernel_rfl
    simp only [Act.put];have hb10:=cells_set (cs:=[.slice (some ⟨g8,0,none⟩) ln lc6,.slice pad6 pn pc6]) B3.out 0 (.slice (some ⟨g8,0,none⟩) n lc6);have g10:=grown_set w3 mb 0 (.slice (some ⟨g8,0,none⟩) n lc6);have R10:=hid ((g10.block rb (lt_of_block R3.out) (λe=>HRM.out (Option.some.inj e))).trans R3.out)
    have M10:=hid (HCM.out.aside (b:=mb) (.inr rfl) g10);have F10:=hid (F3.out.trans (grown_fr (B:=λk=>k < w.heap.size) g10 (λk e b=>by cases e; exact HMB.out b)))
    have B10:Hid ((w3.setCell ⟨mb,0,none⟩ (.slice (some ⟨g8,0,none⟩) n lc6)).heap[mb]? = some (.cells #[.slice (some ⟨g8,0,none⟩) n lc6,.slice pad6 pn pc6] 25 (0,0))):=hb10
    generalize w3.setCell ⟨mb,0,none⟩ (.slice (some ⟨g8,0,none⟩) n lc6) = w10 at R10 M10 F10 B10 |-;clear hb10 g10 t0
    go_upto_region 11 with fail
    refine wp_region_noPanic ?_;obtain⟨wd,hwd⟩:∃ wd,wd = w10.drew:=⟨_,rfl⟩;have hkd:Kept w10.heap.size w10.heap.size w10 wd:=by rw [hwd]; exact(Kept.refl _ _ _).drew
    have BD:=hid (rk B10.out hkd);have RD:=hid (rk R10.out hkd);have MD:=hid (M10.out.kept hkd);have FD:=hid (F10.out.trans hkd.fr);have HLP:=hid (λ(w':World) (h:w' = wd)=>show(loadVar 23 ⟨mb,1,none⟩).run Tryz.prog w' = .ok (.slice pad6 pn pc6) w' by rw [h]; exact load_slice (d:=.int .u8) (two_cell1 BD.out) (.inr rfl) rfl)
    refine wp_region_heldTo 6 (S:=λw'=>w' = wd) (by kernel_rfl) (by rw [hwd]) (λhH=>?_)
    rw [<- hwd] at hH |-;clear hwd hkd;refine tkT (i:=0) 47 (.pointer (some ⟨mb,1,none⟩)) rfl (.inl ⟨by kernel_rfl,λw9 _=>by go_simp⟩) hH ?_
    simp only [sA,sB,sC];refine tkT (i:=1) 48 (.slice pad6 pn pc6) rfl (yieldsIf_load_known (by kernel_rfl) 23 _ rfl mb 1 rfl (.slice pad6 pn pc6) HLP.out) hH ?_
    simp only [sA,sB,sC];refine tkT (i:=2) 49 (.int .i64 (n:Int)) rfl (.inl ⟨by kernel_rfl,λw9 _=>by go_simp⟩) hH ?_
    simp only [sA,sB,sC];refine heldTo_one (i:=3) (by kernel_rfl) rfl (λK hK=>?_)
    rw [if_pos (by rfl)]
    go_simp
    go_wp2_with (go_at_call 28; refine(HPCN.out _).mono ?_; rintro e wx ⟨rfl,hwx⟩; subst wx)
    refine hK.out _ _ rfl (λ_=>?_)
    clear hK K;refine tkT (i:=4) 51 (.slice pad6 q1 pc6) rfl (yieldsIf_slice_known (by kernel_rfl) 23 (.tmp 48) (.tmp 50) rfl (.slice pad6 pn pc6) (.int .i64 (q1:Int)) (.slice pad6 q1 pc6) rfl rfl (λw _=>HS2.out w)) rfl ?_
    simp only [sA,sB,sC];refine tkT (i:=5) 52 (.pointer (some ⟨mb,1,none⟩)) rfl (.inl ⟨by kernel_rfl,λw9 _=>by go_simp⟩) rfl ?_
    simp only [sA,sB,sC];refine heldTo_last (by kernel_rfl) rfl (λK hK=>?_)
    rw [if_pos (by rfl)]
    refine wp_store_part_none 23 _ _ rfl rfl mb 1 [.slice (some ⟨g8,0,none⟩) n lc6,.slice pad6 pn pc6] 25 (.slice pad6 q1 pc6) rfl rfl BD.out (by simp) rfl (by kernel_rfl) ?_
    refine hK.out _ _ ?_;clear hK K;refine heldTo_done (by kernel_rfl) ?_ _
    refine NoPanic.normal ?_;have hb11:=cells_set (cs:=[.slice (some ⟨g8,0,none⟩) n lc6,.slice pad6 pn pc6]) BD.out 1 (.slice pad6 q1 pc6);have g11:=grown_set wd mb 1 (.slice pad6 q1 pc6);have R11:=hid ((g11.block rb (lt_of_block RD.out) (λe=>HRM.out (Option.some.inj e))).trans RD.out)
    have M11:=hid (MD.out.aside (b:=mb) (.inr rfl) g11);have F11:=hid (FD.out.trans (grown_fr (B:=λk=>k < w.heap.size) g11 (λk e b=>by cases e; exact HMB.out b)))
    have B11:Hid ((wd.setCell ⟨mb,1,none⟩ (.slice pad6 q1 pc6)).heap[mb]? = some (.cells #[.slice (some ⟨g8,0,none⟩) n lc6,.slice pad6 q1 pc6] 25 (0,0))):=hb11
    clear hb11 g11;generalize wd.setCell ⟨mb,1,none⟩ (.slice pad6 q1 pc6) = w11 at R11 M11 F11 B11 |-
    go_upto_region 12 with fail
    refine wp_region_lit ?_;refine wLk 25 (.tmp 7) rfl (mb) (0) rfl (.agg #[.slice (some ⟨g8,0,none⟩) n lc6,.slice pad6 q1 pc6]) (run_loadVar_row w11 mb 25 25 _ (0,0) _ B11.out Tryz.underlying25 rfl treeInfo) ?_
    simp only [Act.put,sA,sB,sC];refine wpList_store_row rfl 25 _ _ rfl (rb) #[.slice (some ⟨g8,0,none⟩) n lc6,.slice pad6 q1 pc6] rfl rfl 25 #[.slice none 0 0,.slice none 0 0] R11.out treeInfo rfl (tree_all _ _ _ _ _ _) ?_
    simp only [Act.put];refine wW λK hK=>?_;go_simp;apply hK;clear hK K;have R12:=setRow_heap w11 rb _ #[.slice (some ⟨g8,0,none⟩) n lc6,.slice pad6 q1 pc6] _ _ R11.out;have g12:=grown_setRow w11 rb #[.slice (some ⟨g8,0,none⟩) n lc6,.slice pad6 q1 pc6];have M12:=hid (M11.out.aside (b:=rb) (.inl HBR.out) g12);have F12:=hid ((F11.out.trans (grown_fr (B:=λk=>k < w.heap.size) g12 (λk e b=>by cases e; exact HRB.out b))).kept (λk hk=>hk))
    generalize w11.setRow rb #[.slice (some ⟨g8,0,none⟩) n lc6,.slice pad6 q1 pc6] = wz at R12 g12 M12 F12 |-;go_wp2;refine bodyPost_ret (results_row2 rfl _ _ rb 25 _ (0,0) _ rfl R12 Tryz.underlying25 rfl treeInfo) rfl ?_
    refine⟨_,_,rfl,F12.out,SL9.take q1,?_⟩;have hm:=M12.out;have hre:Tt.ends (L.set k Lf.zero) L.length = n:=by rw [<- HL1.out,<- HLN.out]; exact HEND.out
    have e1:Tt.remL L k = L1.take n:=by rw [Tt.remL,hre,<- HL1.out]
    have e2:Tt.remP L P k = P1.take q1:=by rw [Tt.remP,hre,<- HLN.out,<- HP1.out,HQ1.out]
    rw [e1,e2];exact hm.mono (λ_ b=>.inl (Nat.lt_of_lt_of_le b HSZW.out))
end Go.Proofs.YtinebhdilnndaaaGreatDoor
