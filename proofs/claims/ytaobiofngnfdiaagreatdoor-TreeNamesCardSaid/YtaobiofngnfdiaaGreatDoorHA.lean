/-
 TreeMore; TreePart; TreeRenew; TreeNone; TreeRefCopy: several texts in one.
-/
import Derived.Test.YtaobiofngnfdiaaGreatDoorTreeRemove
import Derived.Test.YtaobiofngnfdiaaGreatDoorGY
set_option maxRecDepth 100000
set_option maxHeartbeats 6400000
namespace Go.Proofs.YtaobiofngnfdiaaGreatDoor
open Go.RowKit Go.Lib
open List renaming setIfInBounds_toArray → sA, set_cons_zero → sB, set_cons_succ → sC
open BigFrame renaming wpList_want → wQ
section
variable {B B':Nat→Prop} {w w1:World} {lv pv:Value} {L:List Lf} {P:List Pr} {SL:List Value}
theorem Frm.cell (h:Frm B w w1){p:Addr}(hp:p.block < w.heap.size)(hb:B p.block):w1.cell? p = w.cell? p:=World.cell?_of_block (w:=w) (h.block p.block hp hb)
theorem Frm.range (h:Frm B w w1){g o:Nat}{cs:List Value}(hr:w.rangeAt g o cs)(hg:g < w.heap.size)(hb:B g):w1.rangeAt g o cs:=fun j v hv=>(h.cell (p:=⟨g,o + j,none⟩) hg hb).trans (hr j v hv)
theorem Mine.empty (B:Nat→Prop)(w:World)(hb:∀ k,B k→k < w.heap.size):Mine B w (.slice none 0 0) (.slice none 0 0) [] [] []:=
 { lok:=fun _ h=>nomatch h
   pok:=fun _ h=>nomatch h
   lo:=OwnC.nil _ _ _ _
   len:=rfl
   po:=OwnC.nil _ _ _ _
   so:=fun _ _ _ h=>by simp at h
   dlp:=.inl rfl
   dls:=fun _ h=>nomatch h
   dps:=fun _ h=>nomatch h
   dss:=fun _ _ _ _ _ h=>by simp at h
   ol:=fun _ h=>nomatch h
   op:=fun _ h=>nomatch h
   os:=fun _ h=>nomatch h
   bnd:=hb }
end
theorem build_tree0 (w:World):(Instr.build 27 #[]).run Tryz.prog w = .ok (.agg #[.slice none 0 0,.slice none 0 0]) w:=by kernel_rfl
section
variable {P:Program} {ops:Array Oper} {rest:List Oper} {o:Oper} {a:Act} {w w':World} {K:Act→World→Prop} {Q:Exit→Act→World→Prop}
end
theorem putList_part (n:Nat)(R:List (List Value))(hR:∀ r∈R,r.length = n)(i:Nat)(hi:i < R.length)(o:Nat)(vs:List Value)(ho:o + vs.length≤n):putList R.flatten (i * n + o) vs = (R.set i (putList R[i] o vs)).flatten:=by
 have hri:R[i].length = n:=hR _ (List.getElem_mem hi)
 have hR2:∀ x∈R.set i (putList R[i] o vs),x.length = n:=fun x hx=>by
  rcases List.mem_or_eq_of_mem_set hx with h | h
  ·exact hR x h
  ·rw [h,putList_length]; exact hri
 have hfl:=flat_len n R hR;have hin:(i + 1) * n≤R.length * n:=Nat.mul_le_mul_right n hi;rw [Nat.succ_mul] at hin;apply List.ext_getElem?;intro j;rw [putList_at vs R.flatten (i * n + o) j (by rw [hfl]; omega)]
 by_cases hj:j < R.length * n
 ·have hn:0 < n:=by
   rcases Nat.eq_zero_or_pos n with h | h
   ·rw [h,Nat.mul_zero] at hj; exact absurd hj (Nat.not_lt_zero _)
   ·exact h
  have hq:j / n < R.length:=(Nat.div_lt_iff_lt_mul hn).2 hj;have hm:j % n < n:=Nat.mod_lt _ hn;have hdm:j / n * n + j % n = j:=by rw [Nat.mul_comm]; exact Nat.div_add_mod j n
  have e1:=flat_at n R hR (j / n) hq (j % n) hm;have e2:=flat_at n _ hR2 (j / n) (by rw [List.length_set]; exact hq) (j % n) hm
  rw [hdm] at e1 e2;rw [e2,List.getElem_set]
  by_cases h:i = j / n
  ·have h3:i * n + j % n = j:=by rw [h]; exact hdm
   rw [if_pos h,putList_at vs R[i] o (j % n) (by rw [hri]; exact ho)]
   by_cases h4:o≤j % n∧j % n < o + vs.length
   ·rw [if_pos (by omega),if_pos h4,show j - (i * n + o) = j % n - o by omega]
   ·rw [if_neg (by omega),if_neg h4,e1]
    simp only [h]
  ·rw [if_neg h,if_neg,e1]
   intro h4;apply h;have h5:j < (i + 1) * n:=by rw [Nat.succ_mul]; omega
   have h6:=(Nat.div_lt_iff_lt_mul hn).2 h5;have h7:=(Nat.le_div_iff_mul_le hn).2 (show i * n≤j by omega)
   omega
 ·rw [if_neg (by omega),List.getElem?_eq_none (by rw [hfl]; omega),List.getElem?_eq_none (by rw [flat_len n _ hR2,List.length_set]; omega)]
theorem putList_mid:∀ (A B C vs:List Value),vs.length = B.length→putList (A ++ (B ++ C)) A.length vs = A ++ (vs ++ C):=fun A B C vs h=>by
 apply List.ext_getElem?;intro j;rw [putList_at _ _ _ _ (by simp only [List.length_append]; omega)]
 by_cases h1:j < A.length
 ·rw [if_neg (by omega),List.getElem?_append_left h1,List.getElem?_append_left h1]
 ·by_cases h2:j < A.length + vs.length
  ·rw [if_pos ⟨by omega,h2⟩,List.getElem?_append_right (by omega),List.getElem?_append_left (by omega)]
  ·rw [if_neg (by omega),List.getElem?_append_right (by omega),List.getElem?_append_right (by omega),List.getElem?_append_right (by omega),List.getElem?_append_right (by omega),h]
theorem Lf.put_pub {l:Lf}(h:l.Ok)(p:List UInt8)(hp:p.length = 32):putList l.cells 1 (bcells p) = ({ l with pub:=p }:Lf).cells:=by
 have:=putList_mid [.int .i64 l.name] (bcells l.pub) (bcells l.ver ++ bcells l.abv) (bcells p) (by rw [bcells_length,bcells_length,hp,h.1])
 exact this
theorem Lf.put_abv {l:Lf}(h:l.Ok)(p:List UInt8)(hp:p.length = 32):putList l.cells 65 (bcells p) = ({ l with abv:=p }:Lf).cells:=by
 have:=putList_mid (.int .i64 l.name :: (bcells l.pub ++ bcells l.ver)) (bcells l.abv) [] (bcells p) (by rw [bcells_length,bcells_length,hp,h.2.2])
 rw [List.length_cons,List.length_append,bcells_length,bcells_length,h.1,h.2.1,List.append_nil,List.append_nil] at this
 simpa [Lf.cells] using this
section
variable {base:Nat} {T:TypeId} {n g cap:Nat}
theorem OwnC.part {w:World}{R:List (List Value)}(h:OwnC w base T n (.slice (some ⟨g,0,none⟩) R.length cap) R)(i:Nat)(hi:i < R.length)(o:Nat)(vs:List Value)(ho:o + vs.length≤n)(h1:∀ y∈vs,y.oneCell' = true):
  OwnC (w.setCells g (i * n + o) vs) base T n (.slice (some ⟨g,0,none⟩) R.length cap) (R.set i (putList R[i] o vs))∧w.grownBy (w.setCells g (i * n + o) vs) (some g)∧w.there g (i * n + o) vs.length:=by
 obtain⟨a,b⟩:=owns_setCells vs (i * n + o) w R.flatten h.2;rw [putList_part n R h.len i hi o vs ho] at a;refine⟨⟨fun x hx=>?_,by rw [List.length_set]; exact a⟩,b,fun j hj=>?_⟩
 ·rcases List.mem_or_eq_of_mem_set hx with hx | hx
  ·exact h.1 x hx
  ·rw [hx,putList_length]
   refine⟨h.len _ (List.getElem_mem hi),fun y hy=>?_⟩
   obtain⟨j,hj,rfl⟩:=List.getElem_of_mem hy;have hz:=putList_at vs R[i] o j (by rw [h.len _ (List.getElem_mem hi)]; exact ho)
   rw [List.getElem?_eq_getElem hj] at hz
   split at hz
   ·exact h1 _ (List.mem_of_getElem? hz.symm)
   ·exact(h.1 _ (List.getElem_mem hi)).2 _ (List.mem_of_getElem? hz.symm)
 ·have:=OwnC.there h i hi (o + j) (by omega)
  rwa [← Nat.add_assoc] at this
end
section
variable {B:Nat→Prop} {w:World} {lv pv:Value} {L:List Lf} {P:List Pr} {SL:List Value}
theorem Mine.leafPart (h:Mine B w lv pv L P SL)(i:Nat)(hi:i < L.length)(l:Lf)(hl:l.Ok)(o:Nat)(vs:List Value)(ho:o + vs.length≤97)(h1:∀ y∈vs,y.oneCell' = true)(he:putList L[i].cells o vs = l.cells):
  ∃ g cap,lv = .slice (some ⟨g,0,none⟩) L.length cap∧¬ B g∧w.there g (i * 97 + o) vs.length∧Mine B (w.setCells g (i * 97 + o) vs) lv pv (L.set i l) P SL∧w.grownBy (w.setCells g (i * 97 + o) vs) (some g):=by
 obtain⟨g,cap,rfl⟩:=own_shape h.lo (by rw [List.length_map]; omega)
 have hq:i < (L.map Lf.cells).length:=by rw [List.length_map]; exact hi
 obtain⟨h2,h3,h4⟩:=OwnC.part h.lo i hq o vs ho h1;have hne:∀ x:Value,Dif (some g) x.ownBlock→x.ownBlock = none∨x.ownBlock≠some g:=fun x hx=>.inr fun e=>hx.elim (fun e2=>nomatch e2) (fun e2=>e2 e.symm)
 rw [List.getElem_map,he,List.length_map] at h2;rw [List.length_map];refine⟨g,cap,rfl,h.ol g rfl,h4,?_,h3⟩
 exact { h with
  lok:=fun x hx=>(List.mem_or_eq_of_mem_set hx).elim (h.lok x) (fun e=>e ▸ hl)
  lo:=by rw [List.map_set]; exact h2
  po:=h.po.grown h3 (hne pv h.dlp)
  so:=fun j p s hp hs=>World.ownsRow.kept (h.so j p s hp hs) h3 (hne s (h.dls s (List.mem_of_getElem? hs)))
  bnd:=fun k hk=>Nat.lt_of_lt_of_le (h.bnd k hk) h3.size }
end
theorem build_zh2 (w:World):(Instr.build 35 #[]).run Tryz.prog w = .ok (.agg (bcells Tt.z32).toArray) w:=build_zh w
namespace Tt
def renewed (l:Lf)(pub:List UInt8):Lf:={ l with pub:=pub,abv:=z32 }
end Tt
theorem bytesAll (l:List UInt8):(bcells l).toArray.all (·.oneCell') = true:=all_oneCell_toArray (bcells_one l)
theorem renew_ok (lv pv:Value)(L:List Lf)(P:List Pr)(k:Nat)(pub:List UInt8)(hpub:pub.length = 32)(w:World)(hL:Lvs w lv L)(hP:Pts w pv P)(hn:L.length≤1000)(hp:P.length≤1000)(hpl:∀ p∈P,p.loose.length≤1000)(hk:k < L.length)(hpe:P.length = L.length - 1)(hlk:Tt.lacks L P (k:Int) = 0):
  Calls Tryz.prog 12 #[.agg #[lv,pv],.int .i64 (k:Int),.agg (bcells pub).toArray] w fun e w'=>∃ lv' pv',e = .returned (.tuple #[.agg #[lv',pv'],.int .i64 0])∧Kept w.heap.size w.heap.size w w'∧∃ SL,Mine (fun k=>k < w.heap.size) w' lv' pv' (L.set k (Tt.renewed L[k] pub)) (Tt.blanks (Bo.Direct L.length (k:Int)) P) SL:=by
 have HLK:=hid (fun(x:World) (kk:Kept w.heap.size w.heap.size w x)=>lacks_calls lv pv L P (k:Int) x (hL.kept kk) (hP.kept kk) hn hp hpl)
 rw [hlk] at HLK;have HCP:=hid (fun(x:World) (kk:Kept w.heap.size w.heap.size w x)=>copied_calls lv pv L P x (hL.kept kk) (hP.kept kk) hn hp hpl)
 have hlok:L[k].Ok:=by
  obtain⟨_,_,_,_,_,h1,_⟩:=hL;exact(h1 k hk).2.2.1
 obtain⟨lad,lc,rfl⟩:=hL.shape;obtain⟨pad,pc,rfl⟩:=hP.shape;obtain⟨ln,hln⟩:∃ ln,ln = L.length:=⟨_,rfl⟩;obtain⟨pn,hpn⟩:∃ pn,pn = P.length:=⟨_,rfl⟩;obtain⟨l,hl⟩:∃ l,l = L[k]:=⟨_,rfl⟩;have hkl:(k:Int) < (ln:Int):=by omega
 have hk0:¬ (k:Int) < 0:=by omega
 rw [← hln,← hpn] at HLK HCP ⊢;rw [← hl] at hlok ⊢;have hln9:(ln:Int)≤1000:=by omega
 have HLN:=hid hln;have HPN:=hid hpn;have HN:=hid hn;have HPE:=hid hpe;have HKL:=hid hk;have HL:=hid (show ∀ h:k < L.length,l = L[k] from fun _=>hl)
 have HOK:=hid hlok;have HPB:=hid hpub;obtain⟨D,hD⟩:∃ D,D = (bcells pub).toArray:=⟨_,rfl⟩;have HDE:=hid hD;have hsz:D.size = 32:=by rw [hD,List.size_toArray,bcells_length,hpub]
 have HSZ:=hid hsz;have hinf:(Tryz.prog.info? 35).map (·.size) = some D.size:=by rw [hD]; exact hashInfoT (by rw [bcells_length,hpub])
 have HINF:=hid hinf;have HALL:=hid (show D.all (·.oneCell') = true by rw [hD]; exact bytesAll pub)
 rw [← hD];clear hL hP hn hp hpl hlk hln hpn hpe hk hl hlok hpub hD hsz hinf;have k1:=kA w (.cells #[.slice lad ln lc,.slice pad pn pc] 27)
 have t1:=heap_new w (.cells #[.slice lad ln lc,.slice pad pn pc] 27)
 have s1:(w.alloc (.cells #[.slice lad ln lc,.slice pad pn pc] 27)).heap.size = w.heap.size + 1:=by simp
 go_enter Tryz.func12,Tryz.ntmps12
 go_upto_region 1 with fail
 generalize w.alloc (.cells #[.slice lad ln lc,.slice pad pn pc] 27) = wa at k1 t1 s1 ⊢
 have k2:=kA wa (.cells D 35)
 have e2:=heap_new wa (.cells D 35)
 have s2:(wa.alloc (.cells D 35)).heap.size = wa.heap.size + 1:=by simp
 have t2:=rk t1 k2;generalize wa.alloc (.cells D 35) = wb at k2 e2 s2 t2 ⊢
 have k3:=kA wb (.cells #[.slice none 0 0,.slice none 0 0] 27)
 have r3:=heap_new wb (.cells #[.slice none 0 0,.slice none 0 0] 27)
 have t3:=rk t2 k3;have e3:=rk e2 k3;generalize wb.alloc (.cells #[.slice none 0 0,.slice none 0 0] 27) = w1 at k3 r3 t3 e3 ⊢
 have K1:=hid ((k1.next1 k2).next1 k3);rw [s2,s1] at r3;rw [s1] at e3
 (try rw [s2])
 (try rw [s1])
 obtain⟨tb,htb⟩:∃ tb,tb = w.heap.size:=⟨_,rfl⟩;obtain⟨lb,hlb⟩:∃ lb,lb = w.heap.size + 1:=⟨_,rfl⟩;obtain⟨rb,hrb⟩:∃ rb,rb = w.heap.size + 1 + 1:=⟨_,rfl⟩;rw [← hrb] at r3
 (try rw [← hrb])
 rw [← hlb] at e3
 (try rw [← hlb])
 rw [← htb] at t3
 (try rw [← htb])
 have HRB:=hid (show ¬ rb < w.heap.size by omega)
 have T1:=hid t3;have E1:=hid e3;have R1:=hid r3;clear k1 t1 s1 k2 e2 s2 t2 k3 r3 t3 e3 htb hlb hrb;refine wp_region_lit ?_;refine @wpList_load_known _ _ _ _ _ _ _ ?_ 27 (.tmp 3) rfl (tb) (0) rfl (.agg #[.slice lad ln lc,.slice pad pn pc]) (run_loadVar_row w1 tb 27 27 _ (0,0) _ T1.out Tryz.underlying27 rfl treeInfo) ?_;kernel_rfl
 simp only [Act.put,sA,sB,sC];refine @wQ _ _ _ _ _ _ _ ?_ ?_;kernel_rfl;intro K hK;go_simp;refine hK _ _ ?_;clear hK K;refine @wQ _ _ _ _ _ _ _ ?_ ?_;kernel_rfl;intro K hK;go_simp;go_at_call 36
 refine(HLK.out _ K1.out).mono ?_;rintro e w2 ⟨rfl,k2⟩;have K2:=hid (K1.out.next1 k2);have T2:=hid (rk T1.out k2);have E2:=hid (rk E1.out k2);have R2:=hid (rk R1.out k2);clear k2;refine hK _ _ ?_;clear hK K;refine @wQ _ _ _ _ _ _ _ ?_ ?_;kernel_rfl;intro K hK;go_simp;refine hK _ _ ?_;clear hK K
 go_upto_region 2 with fail
 refine wp_region_lit ?_;iterate 2 (refine @wQ _ _ _ _ _ _ _ ?_ ?_;kernel_rfl;intro K hK;go_simp;refine hK _ _ ?_;clear hK K)
 go_upto_region 4 with fail
 refine wp_region_lit ?_;refine @wpList_load_known _ _ _ _ _ _ _ ?_ 27 (.tmp 3) rfl (tb) (0) rfl (.agg #[.slice lad ln lc,.slice pad pn pc]) (run_loadVar_row w2 tb 27 27 _ (0,0) _ T2.out Tryz.underlying27 rfl treeInfo) ?_;kernel_rfl
 simp only [Act.put,sA,sB,sC];refine @wQ _ _ _ _ _ _ _ ?_ ?_;kernel_rfl;intro K hK;go_simp;go_at_call 32
 refine(HCP.out _ K2.out).mono ?_;rintro e w6 ⟨lv6,pv6,rfl,k6,SL6,m6⟩;obtain⟨lad6,lc6,rfl⟩:=m6.lvs.shape;obtain⟨pad6,pc6,rfl⟩:=m6.pts.shape;rw [← HLN.out,← HPN.out] at m6 ⊢;have HK56:=hid k6.size;refine hK _ _ ?_;clear hK K;have K6:=hid (K2.out.next1 k6);have T6:=hid (rk T2.out k6);have E6:=hid (rk E2.out k6);have R6:=hid (rk R2.out k6);clear k6;refine @wpL_alloc _ _ _ _ _ _ _ _ ?_ 27 rfl _ (alloc_tree _) ?_;kernel_rfl
 simp only [Act.put,sA,sB,sC];refine wpList_store_row rfl 27 _ _ rfl (w6.heap.size) #[.slice lad6 ln lc6,.slice pad6 pn pc6] rfl rfl 27 #[.slice none 0 0,.slice none 0 0] (heap_new _ _) (treeInfo) (rfl) (tree_all _ _ _ _ _ _) ?_
 simp only [Act.put];rw [World.setRow_alloc_new];have m7:=m6.box (.cells #[.slice lad6 ln lc6,.slice pad6 pn pc6] 27)
 have hb7:=heap_new w6 (.cells #[.slice lad6 ln lc6,.slice pad6 pn pc6] 27)
 have k7:=kA w6 (.cells #[.slice lad6 ln lc6,.slice pad6 pn pc6] 27)
 obtain⟨mb,hmb⟩:∃ mb,mb = w6.heap.size:=⟨_,rfl⟩;obtain⟨sz,hsz⟩:∃ sz,sz = w2.heap.size:=⟨_,rfl⟩;have hs5:=K2.out.size;have hs6:=K6.out.size;have hs56:sz≤w6.heap.size:=by rw [hsz]; exact HK56.out
 have HSZW:=hid (show w.heap.size≤sz by omega)
 have HBR:=hid (show rb < sz by rw [hsz]; exact lt_of_block R2.out)
 generalize w6.alloc (.cells #[.slice lad6 ln lc6,.slice pad6 pn pc6] 27) = w7 at m7 hb7 k7 ⊢
 rw [← hmb] at m7 hb7
 (try rw [← hmb])
 rw [← hsz] at m7;have K7:=hid (K6.out.next1 k7);have E7:=hid (rk E6.out k7);have R7:=hid (rk R6.out k7);clear k7;have F7:=hid (K7.out.fr (B:=fun k=>k < w.heap.size))
 have hl7:=HL.out HKL.out;obtain⟨g8,cap8,he8,hgb8,hth8,hm8,hg8⟩:=m7.leafPart k HKL.out (.mk l.name pub l.ver l.abv) ⟨HPB.out,HOK.out.2.1,HOK.out.2.2⟩ 1 (bcells pub) (by rw [bcells_length,HPB.out]; decide) (bcells_one pub) (by rw [← hl7]; exact Lf.put_pub HOK.out pub HPB.out)
 rw [← HLN.out] at he8;injection he8 with hea hez hec
 subst hea;clear hez hec;obtain⟨g9,cap9,he9,hgb9,hth9,hm9,hg9⟩:=hm8.leafPart k (by rw [List.length_set]; exact HKL.out) (Tt.renewed l pub) ⟨HPB.out,HOK.out.2.1,rfl⟩ 65 (bcells Tt.z32) (by decide) (bcells_one _) (by rw [List.getElem_set_self]; exact Lf.put_abv (l:=.mk l.name pub l.ver l.abv) ⟨HPB.out,HOK.out.2.1,HOK.out.2.2⟩ Tt.z32 rfl)
 rw [List.set_set] at hm9;injection he9 with hea hez hec
 injection hea with hea
 injection hea with hea heo hes
 subst hea;clear hez hec;rw [bcells_length,HPB.out] at hth8;have HTH8:=hid hth8;have HTH9:=hid (show(w7.setCells g8 (k * 97 + 1) (bcells pub)).there g8 (k * 97 + 65) 32 from hth9);have hb8:=(hg8.block mb (lt_of_block hb7) (fun e=>hgb8 (.inr (Option.some.inj e).symm))).trans hb7
 have hr8:=(hg8.block rb (lt_of_block R7.out) (fun e=>hgb8 (.inl (by rw [← Option.some.inj e]; exact HBR.out)))).trans R7.out
 have hf8:=F7.out.trans (grown_fr (B:=fun k=>k < w.heap.size) hg8 (fun k e b=>by cases e; exact hgb8 (.inl (Nat.lt_of_lt_of_le b HSZW.out))))
 have hb9:=(hg9.block mb (lt_of_block hb8) (fun e=>hgb8 (.inr (Option.some.inj e).symm))).trans hb8
 have hr9:=(hg9.block rb (lt_of_block hr8) (fun e=>hgb8 (.inl (by rw [← Option.some.inj e]; exact HBR.out)))).trans hr8
 have hf9:=hf8.trans (grown_fr (B:=fun k=>k < w.heap.size) hg9 (fun k e b=>by cases e; exact hgb8 (.inl (Nat.lt_of_lt_of_le b HSZW.out))))
 have hdl:bcells pub = D.toList:=by rw [HDE.out]
 rw [hdl] at hm9 hb8 hb9 hr9 hf9 HTH9;have B7:=hid hb7;have B8:=hid hb8;have M9:=hid hm9;have B9:=hid hb9;have R9:=hid hr9;have F9:=hid hf9;have HLH:=hid (run_loadVar_row w7 lb 35 35 _ (0,0) _ E7.out Tryz.underlying35 rfl HINF.out)
 clear m6 m7 hb7 hmb hsz hs5 hs6 hs56 K6 hgb8 hth8 hm8 hg8 hb8 hr8 hf8 hgb9 hth9 hm9 hg9 hb9 hr9 hf9 hdl hl7 heo hes;have t0:=two_cell0 B7.out
 go_upto_region 5 with fail
 refine wp_region_lit ?_;iterate 3 (refine @wQ _ _ _ _ _ _ _ ?_ ?_;kernel_rfl;intro K hK;go_simp;refine hK _ _ ?_;clear hK K)
 refine @wpList_load_known _ _ _ _ _ _ _ ?_ 35 (.tmp 5) rfl (lb) (0) rfl (.agg D) (HLH.out) ?_;kernel_rfl
 simp only [Act.put,sA,sB,sC];iterate 2 (refine @wQ _ _ _ _ _ _ _ ?_ ?_;kernel_rfl;intro K hK;go_simp;refine hK _ _ ?_;clear hK K)
 refine @wpL_store_mid _ _ _ _ _ _ _ ?_ 35 _ _ rfl (g8) (k * 97 + 1) D rfl rfl (by rw [HSZ.out]; exact HTH8.out) HINF.out HALL.out ?_;kernel_rfl
 simp only [Act.put];generalize w7.setCells g8 (k * 97 + 1) D.toList = w8 at B8 M9 B9 R9 F9 HTH9 ⊢;clear t0 HTH8 HLH;have t0:=two_cell0 B8.out
 go_upto_region 6 with fail
 refine wp_region_lit ?_;iterate 3 (refine @wQ _ _ _ _ _ _ _ ?_ ?_;kernel_rfl;intro K hK;go_simp;refine hK _ _ ?_;clear hK K)
 refine @wpL_build0 _ _ _ _ _ _ _ ?_ 35 rfl _ (build_zh2 _) ?_;kernel_rfl
 simp only [Act.put,sA,sB,sC];iterate 2 (refine @wQ _ _ _ _ _ _ _ ?_ ?_;kernel_rfl;intro K hK;go_simp;refine hK _ _ ?_;clear hK K)
 refine @wpL_store_mid _ _ _ _ _ _ _ ?_ 35 _ _ rfl (g8) (k * 97 + 65) (bcells Tt.z32).toArray rfl rfl (by exact HTH9.out) (hashInfoT rfl) (bytesAll _) ?_;kernel_rfl
 simp only [Act.put];generalize w8.setCells g8 (k * 97 + 65) (bcells Tt.z32) = w9 at M9 B9 R9 F9 ⊢;clear t0 HTH9;obtain⟨L1,hL1⟩:∃ L1,L1 = L.set k (Tt.renewed l pub):=⟨_,rfl⟩;rw [← hL1] at M9;have hln1:L1.length = ln:=by rw [hL1,List.length_set,HLN.out]
 have HBA:=hid (blankabove_calls _ _ _ L1 P SL6 (k:Int) w9 M9.out (by rw [hln1,HLN.out]; exact HN.out) (by rw [hln1,HLN.out]; exact HPE.out))
 rw [hln1] at HBA;have HL1:=hid hL1;clear hL1 hln1
 go_upto_region 7 with fail
 refine wp_region_lit ?_;refine @wpList_load_known _ _ _ _ _ _ _ ?_ 27 (.tmp 9) rfl (mb) (0) rfl (.agg #[.slice (some ⟨g8,0,none⟩) ln lc6,.slice pad6 pn pc6]) (run_loadVar_row w9 mb 27 27 _ (0,0) _ B9.out Tryz.underlying27 rfl treeInfo) ?_;kernel_rfl
 simp only [Act.put,sA,sB,sC];refine @wQ _ _ _ _ _ _ _ ?_ ?_;kernel_rfl;intro K hK;go_simp;refine hK _ _ ?_;clear hK K;refine @wQ _ _ _ _ _ _ _ ?_ ?_;kernel_rfl;intro K hK;go_simp;go_at_call 37
 refine(HBA.out).mono ?_;rintro e w10 ⟨rfl,f10,SL10,m10⟩;refine hK _ _ ?_;clear hK K;have B10:=hid ((f10.block mb (lt_of_block B9.out) (.inr rfl)).trans B9.out);have R10:=hid ((f10.block rb (lt_of_block R9.out) (.inl HBR.out)).trans R9.out);have F10:=hid (F9.out.trans (f10.mono (fun k b=>.inl (Nat.lt_of_lt_of_le b HSZW.out))))
 obtain⟨P1,hP1⟩:∃ P1,P1 = Tt.blanks (Bo.Direct (ln:Int) (k:Int)) P:=⟨_,rfl⟩;rw [← hP1] at m10;have HP1:=hid hP1;have M10:=hid m10;clear f10 m10 hP1
 go_upto_region 8 with fail
 refine wp_region_lit ?_;refine @wpList_load_known _ _ _ _ _ _ _ ?_ 27 (.tmp 9) rfl (mb) (0) rfl (.agg #[.slice (some ⟨g8,0,none⟩) ln lc6,.slice pad6 pn pc6]) (run_loadVar_row w10 mb 27 27 _ (0,0) _ B10.out Tryz.underlying27 rfl treeInfo) ?_;kernel_rfl
 simp only [Act.put,sA,sB,sC];refine wpList_store_row rfl 27 _ _ rfl (rb) #[.slice (some ⟨g8,0,none⟩) ln lc6,.slice pad6 pn pc6] rfl rfl 27 #[.slice none 0 0,.slice none 0 0] R10.out treeInfo rfl (tree_all _ _ _ _ _ _) ?_
 simp only [Act.put];refine @wQ _ _ _ _ _ _ _ ?_ ?_;kernel_rfl;intro K hK;go_simp;refine hK _ _ ?_;clear hK K;have R12:=setRow_heap w10 rb _ #[.slice (some ⟨g8,0,none⟩) ln lc6,.slice pad6 pn pc6] _ _ R10.out;have g12:=grown_setRow w10 rb #[.slice (some ⟨g8,0,none⟩) ln lc6,.slice pad6 pn pc6];have M12:=hid (M10.out.aside (b:=rb) (.inl HBR.out) g12);have F12:=hid ((F10.out.trans (grown_fr (B:=fun k=>k < w.heap.size) g12 (fun k e b=>by cases e; exact HRB.out b))).kept (fun k hk=>hk))
 generalize w10.setRow rb #[.slice (some ⟨g8,0,none⟩) ln lc6,.slice pad6 pn pc6] = wz at R12 g12 M12 F12 ⊢;go_wp2;refine bodyPost_ret (results_row2 rfl _ _ rb 27 _ (0,0) _ rfl R12 Tryz.underlying27 rfl treeInfo) rfl ?_
 have hm:=M12.out;rw [HL1.out,HP1.out] at hm;exact⟨_,_,rfl,F12.out,SL10,hm.mono (fun _ b=>.inl (Nat.lt_of_lt_of_le b HSZW.out))⟩
theorem renew_none (lv pv:Value)(L:List Lf)(P:List Pr)(x:Int)(pub:List UInt8)(hpub:pub.length = 32)(w:World)(hL:Lvs w lv L)(hP:Pts w pv P)(hn:L.length≤1000)(hp:P.length≤1000)(hpl:∀ p∈P,p.loose.length≤1000)(hlk:Tt.lacks L P x = 7):
  Calls Tryz.prog 12 #[.agg #[lv,pv],.int .i64 x,.agg (bcells pub).toArray] w fun e w'=>e = .returned (.tuple #[.agg #[.slice none 0 0,.slice none 0 0],.int .i64 7])∧Kept w.heap.size w.heap.size w w':=by
 have HLK:=hid (fun(u:World) (kk:Kept w.heap.size w.heap.size w u)=>lacks_calls lv pv L P x u (hL.kept kk) (hP.kept kk) hn hp hpl)
 rw [hlk] at HLK;clear hlk;obtain⟨lad,lc,rfl⟩:=hL.shape;obtain⟨pad,pc,rfl⟩:=hP.shape;obtain⟨ln,hln⟩:∃ ln,ln = L.length:=⟨_,rfl⟩;obtain⟨pn,hpn⟩:∃ pn,pn = P.length:=⟨_,rfl⟩;rw [← hln,← hpn] at HLK ⊢;have hln9:(ln:Int)≤1000:=by omega
 have HLN:=hid hln;have HPN:=hid hpn;have HPB:=hid hpub;obtain⟨D,hD⟩:∃ D,D = (bcells pub).toArray:=⟨_,rfl⟩;have HDE:=hid hD;have hsz:D.size = 32:=by rw [hD,List.size_toArray,bcells_length,hpub]
 have HSZ:=hid hsz;have hinf:(Tryz.prog.info? 35).map (·.size) = some D.size:=by rw [hD]; exact hashInfoT (by rw [bcells_length,hpub])
 have HINF:=hid hinf;have HALL:=hid (show D.all (·.oneCell') = true by rw [hD]; exact bytesAll pub)
 rw [← hD];clear hpub hD hsz hinf;clear hL hP hn hp hpl hln hpn;have k1:=kA w (.cells #[.slice lad ln lc,.slice pad pn pc] 27)
 have t1:=heap_new w (.cells #[.slice lad ln lc,.slice pad pn pc] 27)
 have s1:(w.alloc (.cells #[.slice lad ln lc,.slice pad pn pc] 27)).heap.size = w.heap.size + 1:=by simp
 go_enter Tryz.func12,Tryz.ntmps12
 go_upto_region 1 with fail
 generalize w.alloc (.cells #[.slice lad ln lc,.slice pad pn pc] 27) = wa at k1 t1 s1 ⊢
 have k2:=kA wa (.cells D 35)
 have e2:=heap_new wa (.cells D 35)
 have s2:(wa.alloc (.cells D 35)).heap.size = wa.heap.size + 1:=by simp
 have t2:=rk t1 k2;generalize wa.alloc (.cells D 35) = wb at k2 e2 s2 t2 ⊢
 have k3:=kA wb (.cells #[.slice none 0 0,.slice none 0 0] 27)
 have r3:=heap_new wb (.cells #[.slice none 0 0,.slice none 0 0] 27)
 have s3:(wb.alloc (.cells #[.slice none 0 0,.slice none 0 0] 27)).heap.size = wb.heap.size + 1:=by simp
 have t3:=rk t2 k3;have e3:=rk e2 k3;generalize wb.alloc (.cells #[.slice none 0 0,.slice none 0 0] 27) = w1 at k3 r3 s3 t3 e3 ⊢
 have K1:=hid ((k1.next1 k2).next1 k3);rw [s2,s1] at r3 s3;rw [s1] at e3
 (try rw [s2])
 (try rw [s1])
 obtain⟨tb,htb⟩:∃ tb,tb = w.heap.size:=⟨_,rfl⟩;obtain⟨lb,hlb⟩:∃ lb,lb = w.heap.size + 1:=⟨_,rfl⟩;obtain⟨rb,hrb⟩:∃ rb,rb = w.heap.size + 1 + 1:=⟨_,rfl⟩;rw [← hrb] at r3
 (try rw [← hrb])
 rw [← hlb] at e3
 (try rw [← hlb])
 rw [← htb] at t3
 (try rw [← htb])
 have HTL:=hid (show tb≠lb by omega)
 have HTR:=hid (show tb≠rb by omega)
 have HTB:=hid (show ¬ tb < w.heap.size by omega)
 have HRB:=hid (show ¬ rb < w.heap.size by omega)
 have HWS:=hid (show w.heap.size≤w1.heap.size by omega)
 have T1:=hid t3;have R1:=hid r3;have E1:=hid e3;clear k1 t1 s1 k2 e2 s2 t2 k3 r3 s3 t3 e3 htb hlb hrb;refine wp_region_lit ?_;refine @wpList_load_known _ _ _ _ _ _ _ ?_ 27 (.tmp 3) rfl (tb) (0) rfl (.agg #[.slice lad ln lc,.slice pad pn pc]) (run_loadVar_row w1 tb 27 27 _ (0,0) _ T1.out Tryz.underlying27 rfl treeInfo) ?_;kernel_rfl
 simp only [Act.put,sA,sB,sC];refine @wQ _ _ _ _ _ _ _ ?_ ?_;kernel_rfl;intro K hK;go_simp;refine hK _ _ ?_;clear hK K;refine @wQ _ _ _ _ _ _ _ ?_ ?_;kernel_rfl;intro K hK;go_simp;go_at_call 36
 refine(HLK.out _ K1.out).mono ?_;rintro e w2 ⟨rfl,k2⟩;have K2:=hid (K1.out.next1 k2);have T2:=hid (rk T1.out k2);have R2:=hid (rk R1.out k2);clear k2;refine hK _ _ ?_;clear hK K;refine @wQ _ _ _ _ _ _ _ ?_ ?_;kernel_rfl;intro K hK;go_simp;refine hK _ _ ?_;clear hK K
 go_upto_region 2 with fail
 refine wp_region_lit ?_;iterate 2 (refine @wQ _ _ _ _ _ _ _ ?_ ?_;kernel_rfl;intro K hK;go_simp;refine hK _ _ ?_;clear hK K)
 go_upto_region 3 with fail
 refine wp_region_lit ?_;refine @wpL_build0 _ _ _ _ _ _ _ ?_ 27 rfl _ (build_tree0 _) ?_;kernel_rfl
 simp only [Act.put,sA,sB,sC];refine @wQ _ _ _ _ _ _ _ ?_ ?_;kernel_rfl;intro K hK;go_simp;refine hK _ _ ?_;clear hK K;refine wpList_store_row rfl 27 _ _ rfl (rb) #[.slice none 0 0,.slice none 0 0] rfl rfl 27 #[.slice none 0 0,.slice none 0 0] R2.out treeInfo rfl (tree_all _ _ _ _ _ _) ?_
 simp only [Act.put];refine @wQ _ _ _ _ _ _ _ ?_ ?_;kernel_rfl;intro K hK;go_simp;refine hK _ _ ?_;clear hK K;have R3:=setRow_heap w2 rb _ #[.slice none 0 0,.slice none 0 0] _ _ R2.out;have K3:=hid (K2.out.grown (grown_setRow w2 rb #[.slice none 0 0,.slice none 0 0]) K2.out.size (fun k e=>by cases e; exact Nat.le_of_not_lt HRB.out))
 generalize w2.setRow rb #[.slice none 0 0,.slice none 0 0] = w3 at R3 K3 ⊢;go_wp2;refine bodyPost_ret (results_row2 rfl _ _ rb 27 _ (0,0) _ rfl R3 Tryz.underlying27 rfl treeInfo) rfl ?_
 exact⟨rfl,K3.out⟩
theorem remove_none (lv pv:Value)(L:List Lf)(P:List Pr)(x:Int)(w:World)(hL:Lvs w lv L)(hP:Pts w pv P)(hn:L.length≤1000)(hp:P.length≤1000)(hpl:∀ p∈P,p.loose.length≤1000)(hlk:Tt.lacks L P x = 7):
  Calls Tryz.prog 13 #[.agg #[lv,pv],.int .i64 x] w fun e w'=>e = .returned (.tuple #[.agg #[.slice none 0 0,.slice none 0 0],.int .i64 7])∧Kept w.heap.size w.heap.size w w':=by
 have HLK:=hid (fun(u:World) (kk:Kept w.heap.size w.heap.size w u)=>lacks_calls lv pv L P x u (hL.kept kk) (hP.kept kk) hn hp hpl)
 rw [hlk] at HLK;clear hlk;obtain⟨lad,lc,rfl⟩:=hL.shape;obtain⟨pad,pc,rfl⟩:=hP.shape;obtain⟨ln,hln⟩:∃ ln,ln = L.length:=⟨_,rfl⟩;obtain⟨pn,hpn⟩:∃ pn,pn = P.length:=⟨_,rfl⟩;rw [← hln,← hpn] at HLK ⊢;have hln9:(ln:Int)≤1000:=by omega
 have HLN:=hid hln;have HPN:=hid hpn;clear hL hP hn hp hpl hln hpn;have k1:=kA w (.cells #[.slice lad ln lc,.slice pad pn pc] 27)
 have t1:=heap_new w (.cells #[.slice lad ln lc,.slice pad pn pc] 27)
 have s1:(w.alloc (.cells #[.slice lad ln lc,.slice pad pn pc] 27)).heap.size = w.heap.size + 1:=by simp
 go_enter Tryz.func13,Tryz.ntmps13
 go_upto_region 1 with fail
 generalize w.alloc (.cells #[.slice lad ln lc,.slice pad pn pc] 27) = wa at k1 t1 s1 ⊢
 have k3:=kA wa (.cells #[.slice none 0 0,.slice none 0 0] 27)
 have r3:=heap_new wa (.cells #[.slice none 0 0,.slice none 0 0] 27)
 have s3:(wa.alloc (.cells #[.slice none 0 0,.slice none 0 0] 27)).heap.size = wa.heap.size + 1:=by simp
 have t3:=rk t1 k3;generalize wa.alloc (.cells #[.slice none 0 0,.slice none 0 0] 27) = w1 at k3 r3 s3 t3 ⊢
 have K1:=hid (k1.next1 k3);rw [s1] at r3 s3
 (try rw [s1])
 obtain⟨tb,htb⟩:∃ tb,tb = w.heap.size:=⟨_,rfl⟩;obtain⟨rb,hrb⟩:∃ rb,rb = w.heap.size + 1:=⟨_,rfl⟩;rw [← hrb] at r3
 (try rw [← hrb])
 rw [← htb] at t3
 (try rw [← htb])
 have HTR:=hid (show tb≠rb by omega)
 have HTB:=hid (show ¬ tb < w.heap.size by omega)
 have HRB:=hid (show ¬ rb < w.heap.size by omega)
 have HWS:=hid (show w.heap.size≤w1.heap.size by omega)
 have T1:=hid t3;have R1:=hid r3;clear k1 t1 s1 k3 r3 s3 t3 htb hrb;refine wp_region_lit ?_;refine @wpList_load_known _ _ _ _ _ _ _ ?_ 27 (.tmp 2) rfl (tb) (0) rfl (.agg #[.slice lad ln lc,.slice pad pn pc]) (run_loadVar_row w1 tb 27 27 _ (0,0) _ T1.out Tryz.underlying27 rfl treeInfo) ?_;kernel_rfl
 simp only [Act.put,sA,sB,sC];refine @wQ _ _ _ _ _ _ _ ?_ ?_;kernel_rfl;intro K hK;go_simp;refine hK _ _ ?_;clear hK K;refine @wQ _ _ _ _ _ _ _ ?_ ?_;kernel_rfl;intro K hK;go_simp;go_at_call 36
 refine(HLK.out _ K1.out).mono ?_;rintro e w2 ⟨rfl,k2⟩;have K2:=hid (K1.out.next1 k2);have T2:=hid (rk T1.out k2);have R2:=hid (rk R1.out k2);clear k2;refine hK _ _ ?_;clear hK K;refine @wQ _ _ _ _ _ _ _ ?_ ?_;kernel_rfl;intro K hK;go_simp;refine hK _ _ ?_;clear hK K
 go_upto_region 2 with fail
 refine wp_region_lit ?_;iterate 2 (refine @wQ _ _ _ _ _ _ _ ?_ ?_;kernel_rfl;intro K hK;go_simp;refine hK _ _ ?_;clear hK K)
 go_upto_region 3 with fail
 refine wp_region_lit ?_;refine @wpL_build0 _ _ _ _ _ _ _ ?_ 27 rfl _ (build_tree0 _) ?_;kernel_rfl
 simp only [Act.put,sA,sB,sC];refine @wQ _ _ _ _ _ _ _ ?_ ?_;kernel_rfl;intro K hK;go_simp;refine hK _ _ ?_;clear hK K;refine wpList_store_row rfl 27 _ _ rfl (rb) #[.slice none 0 0,.slice none 0 0] rfl rfl 27 #[.slice none 0 0,.slice none 0 0] R2.out treeInfo rfl (tree_all _ _ _ _ _ _) ?_
 simp only [Act.put];refine @wQ _ _ _ _ _ _ _ ?_ ?_;kernel_rfl;intro K hK;go_simp;refine hK _ _ ?_;clear hK K;have R3:=setRow_heap w2 rb _ #[.slice none 0 0,.slice none 0 0] _ _ R2.out;have K3:=hid (K2.out.grown (grown_setRow w2 rb #[.slice none 0 0,.slice none 0 0]) K2.out.size (fun k e=>by cases e; exact Nat.le_of_not_lt HRB.out))
 generalize w2.setRow rb #[.slice none 0 0,.slice none 0 0] = w3 at R3 K3 ⊢;go_wp2;refine bodyPost_ret (results_row2 rfl _ _ rb 27 _ (0,0) _ rfl R3 Tryz.underlying27 rfl treeInfo) rfl ?_
 exact⟨rfl,K3.out⟩
end Go.Proofs.YtaobiofngnfdiaaGreatDoor
