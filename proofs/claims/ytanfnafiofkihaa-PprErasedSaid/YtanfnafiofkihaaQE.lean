/-
 NoteF; PprNewT: several texts in one.
-/
import Derived.Test.YtanfnafiofkihaaGD
import Derived.Test.YtanfnafiofkihaaGR
import Derived.Test.YtanfnafiofkihaaQC
set_option maxRecDepth 100000
set_option maxHeartbeats 3200000
namespace Go.Proofs.Ytanfnafiofkihaa
open Go.RowKit
open Go.Lib (hid)
def GrowF (v:Value)(w w':World)(u:Value):Prop:=(∀ k,k < w.heap.size->v.ownBlock≠some k->w'.heap[k]? = w.heap[k]?)/\∀ k,u.ownBlock = some k->v.ownBlock = some k\/w.heap.size<=k
theorem GrowF.ofKept (v:Value){w w':World}(k:Kept w.heap.size w.heap.size w w'):GrowF v w w' v:=⟨λi hi _=>k.block i hi (Nat.ne_of_lt hi),λ_ h=>.inl h⟩
theorem GrowF.grown {v u:Value}{w w1 w2:World}(k:Kept w.heap.size w.heap.size w w1)(hg:w1.grownBy w2 v.ownBlock)(hn:u.ownBlock = v.ownBlock\/u.ownBlock = some w1.heap.size):GrowF v w w2 u:=
 ⟨λi hi h=>(hg.block i (Nat.lt_of_lt_of_le hi k.size) (λe=>h e.symm)).trans (k.block i hi (Nat.ne_of_lt hi)),λi hi=>hn.elim (λe=>.inl (by rw [<- e]; exact hi)) (λe=>.inr (by rw [e] at hi; cases hi; exact k.size))⟩
theorem append_factN (w:World)(base:Nat)(v:Value)(L:List (List (List UInt8) × List (List UInt8)))(hown:OwnF w base v L)(hbase:base<=w.heap.size)(b c:Nat)(x y:Value)(f:List (List UInt8) × List (List UInt8))(hx:Own w 0 x f.1)(hy:Own w 0 y f.2)(hb0:w.cell? ⟨b,0,none⟩ = some x)(hb1:w.cell? ⟨b,1,none⟩ = some y)(hl:L.length < 1073741824):
  ∃ v' w',(Builtin.append_ #[31,31] 31 #[v,.slice (some ⟨b,0,none⟩) 1 c]).run Try.prog w = .ok v' w'/\OwnF w' base v' (L ++ [f])/\w.grownBy w' v.ownBlock/\(v'.ownBlock = v.ownBlock\/v'.ownBlock = some w.heap.size):=by
 obtain⟨i,z,hi,hz,hzs,hs⟩:=fact_info
 have hby:i.bytes = 48:=by
  have:=factBytes;rw [hi] at this
  simpa using this
 obtain⟨ps,hpl,ho,hp⟩:=hown
 have one:∀ {u:Value} {M:List (List UInt8)},Own w 0 u M->u.oneCell' = true:=fun {u M} h=>by
  rcases h.2.2 with ⟨rfl,_⟩ | ⟨g,cap,cur,rfl,_⟩ <;> rfl
 obtain⟨v',w',h1,h2,h3,_,h9⟩:=run_append_own_at (P:=Try.prog) w base 31 31 35 i z 2 48 Try.underlying31 hi hz hs hby hzs (by decide) v L.length _ ho ⟨b,0,none⟩ 1 c [x,y]
  rfl (λj u hu=>by
   rw [Addr.add_lit]
   match j with
   | 0=>cases hu; exact hb0
   | 1=>cases hu; exact hb1
   | j + 2=>simp at hu)
  (λu hu=>by
   simp at hu
   rcases hu with rfl | rfl
   ·exact one hx
   ·exact one hy) (by unfold maxLen; omega) (by omega) hbase
 refine⟨v',w',h1,⟨ps ++ [(x,y)],by simp [hpl],?_,λj hj hpj=>?_⟩,h3,h9⟩
 ·rw [List.length_append,List.length_singleton,List.flatMap_append]
  simpa using h2
 ·rcases Nat.lt_or_ge j L.length with h | h
  ·obtain⟨p,q⟩:=hp j h (by omega)
   rw [List.getElem_append_left (by omega),List.getElem_append_left h]
   exact⟨p.grownF ho h3,q.grownF ho h3⟩
  ·obtain rfl:j = L.length:=by simp at hj; omega
   have e1:(ps ++ [(x,y)])[L.length] = (x,y):=by rw [List.getElem_append_right (by omega)]; simp [hpl]
   have e2:(L ++ [f])[L.length] = f:=by rw [List.getElem_append_right (Nat.le_refl _)]; simp
   rw [e1,e2];exact⟨hx.grownF ho h3,hy.grownF ho h3⟩
theorem refnote_callsG (L:List (List (List UInt8) × List (List UInt8)))(f:List (List UInt8) × List (List UInt8))(v a b:Value)(w:World)(base:Nat)(hL:OwnF w base v L)(hbase:base<=w.heap.size)(ha:Own w 0 a f.1)(hb:Own w 0 b f.2)(hn:L.length < 1073741824)(hsz:∀ g∈L,g.1.length < 1073741824/\g.2.length < 1073741824)(hf1:f.1.length < 1073741824)(hf2:f.2.length < 1073741824):
  Calls Try.prog 18 #[v,.agg #[a,b]] w λe w'=>∃ u,e = .returned (.tuple #[u,.int .i64 (if f.2.length = 0 then 1 else 0)])/\OwnF w' base u (Bk.note L f)/\Kept base base w w'/\GrowF v w w' u:=by
 obtain⟨ad,g,o,c,hv,fcell⟩:=hL.fs;have ha0:=ha.hs;have hb0:=hb.hs;obtain⟨zp1,aad,ag,ao,ac,rfl,zp2⟩:=ha0;clear zp1 zp2;obtain⟨zp1,bad,bg,bo,bc,rfl,zp2⟩:=hb0;clear zp1 zp2;subst hv;have HF:=hid fcell;have HL:=hid hL;have HA:=hid ha;have HB:=hid hb;have HSZ:=hid hsz;clear fcell hL ha hb hsz
 go_enter Try.func18,Try.ntmps18
 go_upto_region 1 with fail
 have hX:(w.alloc (.cells #[.slice aad f.1.length ac,.slice bad f.2.length bc] 35)).heap[w.heap.size]? = some (.cells #[.slice aad f.1.length ac,.slice bad f.2.length bc] 35 (0,0)):=heap_new _ _
 have k1:Kept w.heap.size w.heap.size w (w.alloc (.cells #[.slice aad f.1.length ac,.slice bad f.2.length bc] 35)):=(Kept.refl _ _ _).alloc (Nat.le_refl _) _
 have s1:(w.alloc (.cells #[.slice aad f.1.length ac,.slice bad f.2.length bc] 35)).heap.size = w.heap.size + 1:=by simp
 generalize w.alloc (.cells #[.slice aad f.1.length ac,.slice bad f.2.length bc] 35) = w1 at hX k1 s1 |-
 obtain⟨wa,hwa⟩:∃ wa,wa = w.heap.size:=⟨_,rfl⟩;rw [<- hwa] at hX k1 s1 |-;have c0:=two_cell0 hX;have c1:=two_cell1 hX;have HWA:=hid hwa;have HX:=hid hX;have HK1:=hid k1;have HS1:=hid s1;clear hwa hX k1 s1
 by_cases he:f.2.length = 0
 ·have hd:((f.2.length:Int) == 0) = true:=by rw [he]; rfl
  go_wp2;refine bodyPost_ret (results_tmp2 rfl _ _ _) rfl ?_;have e1:=HWA.out;have hk:Kept w.heap.size w.heap.size w w1:=by rw [<- e1]; exact HK1.out
  exact⟨_,rfl,by rw [Bk.note,if_pos he]; exact HL.out.kept hk (Nat.le_refl _),hk.mono hbase (λk hk2 _=>by omega),GrowF.ofKept _ hk⟩
 ·have hd:((f.2.length:Int) == 0) = false:=by rw [beq_eq_false_iff_ne]; omega
  go_wp2_with fail
  go_loopw [6] (λs6 w9=>∃ i:Nat,i<=L.length/\s6 = .int .i64 (i:Int)/\Hid (∀ j (hj:j < L.length),j < i->(alikeB L[j].1 f.1 && alikeB L[j].2 f.2) = false)/\Hid (Kept w1.heap.size w1.heap.size w1 w9)) (λs6 _=>L.length - (RowKit.intOf s6).toNat)
  case atStart=>exact⟨0,by omega,rfl,hid (λ_ _ h=>absurd h (Nat.not_lt_zero _)),hid (Kept.refl _ _ _)⟩
  case round=>
   obtain⟨i,hi,rfl,hno,hK⟩:=hrel;have e1:=HWA.out;have e2:=HS1.out
   have hkw:Kept w.heap.size w.heap.size w wr:=by
    rw [<- e1];exact HK1.out.trans (hK.out.mono (by omega) (λk hk _=>by omega))
   have hXr:=(hK.out.block wa (by omega) (by omega)).trans HX.out
   have HKW:=hid hkw;have HXR:=hid hXr;clear e1 e2 hXr
   by_cases hil:i < L.length
   ·obtain⟨rfl,hg,p,q,hp,hq,hsp,hsq⟩:=HF.out i hil
    obtain⟨zp1,pad,pg,po,pc,rfl,zp2⟩:=id hsp;clear zp1 zp2;obtain⟨zp1,qad,qg,qo,qc,rfl,zp2⟩:=id hsq;clear zp1 zp2;have hiln:(i:Int) < (L.length:Int):=by omega
    have hi0:¬ (i:Int) < 0:=by omega
    have hz:=HSZ.out L[i] (List.getElem_mem hil);have hpc:=(hkw.cell (p:=⟨g,o + i * 2,none⟩) hg (Nat.ne_of_lt hg)).trans hp;have hqc:=(hkw.cell (p:=⟨g,o + i * 2 + 1,none⟩) hg (Nat.ne_of_lt hg)).trans hq;have r1:∀ d os,(Go.Sort.grow (redrawn wr d) os).cell? ⟨g,o + i * 2,none⟩ = some _:=λd os=>cell_regrown hpc d os
    have r2:∀ d os,(Go.Sort.grow (redrawn wr d) os).cell? ⟨g,o + i * 2 + 1,none⟩ = some _:=λd os=>cell_regrown hqc d os
    have r3:∀ d os,(Go.Sort.grow (redrawn wr d) os).cell? ⟨wa,0,none⟩ = some _:=λd os=>cell_regrown (two_cell0 HXR.out) d os
    have r4:∀ d os,(Go.Sort.grow (redrawn wr d) os).cell? ⟨wa,1,none⟩ = some _:=λd os=>cell_regrown (two_cell1 HXR.out) d os
    have ca1:∀ w',Kept wr.heap.size wr.heap.size wr w'->_:=λw' kk=>alike_calls L[i].1 f.1 _ _ w' ((hsp.kept hkw).kept kk) ((HA.out.hs.kept hkw).kept kk) hz.1 hf1
    have ca2:∀ w',Kept wr.heap.size wr.heap.size wr w'->_:=λw' kk=>alike_calls L[i].2 f.2 _ _ w' ((hsq.kept hkw).kept kk) ((HB.out.hs.kept hkw).kept kk) hz.2 hf2
    have hyes:=λh1 h2=>Bk.noted_yes (f:=f) i hil h1 h2
    have hmore:(alikeB L[i].1 f.1 && alikeB L[i].2 f.2) = false->∀ j (hj:j < L.length),j < i + 1->(alikeB L[j].1 f.1 && alikeB L[j].2 f.2) = false:=λh j hj hji=>by
     rcases Nat.lt_or_ge j i with h3 | h3
     ·exact hno.out j hj h3
     ·obtain rfl:j = i:=by omega
      exact h
    generalize L[i] = G at hyes hmore ca1 ca2 r1 r2 hsp hsq hz hp hq hpc hqc;generalize hB1:alikeB G.1 f.1 = B1 at hyes hmore ca1;generalize hB2:alikeB G.2 f.2 = B2 at hyes hmore ca2;have CA1:=hid ca1;have CA2:=hid ca2;have HYES:=hid hyes;have HMORE:=hid hmore;clear ca1 ca2 hyes hmore hB1 hB2 hsp hsq hp hq hpc hqc hz hkw
    go_upto_region 6 with fail
    refine wp_region_quiet_below (by kernel_rfl) (by kernel_rfl) ?_
    iterate 7 (quiet_step (fail))
    quiet_step (first | (go_at_call 20; exact kept_regrown_at (w:=wr) (v:=.bool B1) CA1.out))
    cases B1 with
    | true=>
     refine @BigFrame.wpQuiet_want _ _ _ _ _ _ _ ?_ ?_;kernel_rfl;intro K hK;go_simp;refine hK _ ?_;clear hK K;refine @BigFrame.wpQuiet_want _ _ _ _ _ _ _ ?_ ?_;kernel_rfl;intro K hK;go_simp;refine hK _ ?_;clear hK K;refine @BigFrame.wpQuiet_want _ _ _ _ _ _ _ ?_ ?_;kernel_rfl;intro K hK;go_simp;refine hK _ ?_;clear hK K;refine @BigFrame.wpQuiet_want _ _ _ _ _ _ _ ?_ ?_;kernel_rfl;intro K hK;go_simp;refine hK _ ?_;clear hK K;refine @BigFrame.wpQuiet_want _ _ _ _ _ _ _ ?_ ?_;kernel_rfl;intro K hK;go_simp;refine hK _ ?_;clear hK K;refine @BigFrame.wpQuiet_want _ _ _ _ _ _ _ ?_ ?_;kernel_rfl;intro K hK;go_simp;refine hK _ ?_;clear hK K;refine @BigFrame.wpQuiet_want _ _ _ _ _ _ _ ?_ ?_;kernel_rfl;intro K hK;go_simp;refine hK _ ?_;clear hK K;refine @BigFrame.wpQuiet_want _ _ _ _ _ _ _ ?_ ?_;kernel_rfl;intro K hK;go_simp;refine hK _ ?_;clear hK K;refine @BigFrame.wpQuiet_want _ _ _ _ _ _ _ ?_ ?_;kernel_rfl;intro K hK;go_simp;apply Exists.intro;refine⟨λ_=>?_,hK _ ?_⟩
     go_at_call 20; exact kept_regrown_at (w:=wr) (v:=.bool B2) CA2.out
     clear hK K;refine @BigFrame.wpQuiet_want _ _ _ _ _ _ _ ?_ ?_;kernel_rfl;intro K hK;go_simp;refine hK _ ?_;clear hK K;refine wpQuiet_nil ?_;rintro _ ⟨p,rfl⟩;have k2:=regrown_kept (w:=wr) ⟨p,rfl⟩;generalize Go.Sort.grow (redrawn wr p.d) p.os = w2 at k2 |-;clear r1 r2 r3 r4
     cases B2 with
     | true=>
      have hy:=HYES.out rfl rfl;have HY:=hid hy;have Hk3:=hid (HKW.out.trans (k2.mono HKW.out.size (λk hk _=>by have:=HKW.out.size; omega)))
      clear hy k2;go_wp2;refine bodyPost_ret (results_tmp2 rfl _ _ _) rfl ?_;exact⟨_,rfl,by rw [Bk.note,if_neg he,if_pos HY.out]; exact HL.out.kept Hk3.out (Nat.le_refl _),Hk3.out.mono hbase (λk hk2 _=>by omega),GrowF.ofKept _ Hk3.out⟩
     | false=>
      have Hk2:=hid (hK.out.trans (k2.mono hK.out.size (λk hk _=>by have:=hK.out.size; omega)))
      have Hno2:=hid (HMORE.out rfl);clear k2;go_wp2;exact⟨⟨i + 1,by omega,by rw [Int.natCast_add]; rfl,Hno2,Hk2⟩,by simp only [RowKit.intOf]; omega⟩
    | false=>
     refine @BigFrame.wpQuiet_want _ _ _ _ _ _ _ ?_ ?_;kernel_rfl;intro K hK;go_simp;refine hK _ ?_;clear hK K;refine @BigFrame.wpQuiet_skip _ _ _ _ _ _ _ ?_ ?_;kernel_rfl;simp only [Act.put,List.setIfInBounds_toArray,List.set_cons_succ,List.set_cons_zero];refine @BigFrame.wpQuiet_skip _ _ _ _ _ _ _ ?_ ?_;kernel_rfl;simp only [Act.put,List.setIfInBounds_toArray,List.set_cons_succ,List.set_cons_zero];refine @BigFrame.wpQuiet_skip _ _ _ _ _ _ _ ?_ ?_;kernel_rfl;simp only [Act.put,List.setIfInBounds_toArray,List.set_cons_succ,List.set_cons_zero];refine @BigFrame.wpQuiet_skip _ _ _ _ _ _ _ ?_ ?_;kernel_rfl;simp only [Act.put,List.setIfInBounds_toArray,List.set_cons_succ,List.set_cons_zero];refine @BigFrame.wpQuiet_skip _ _ _ _ _ _ _ ?_ ?_;kernel_rfl;simp only [Act.put,List.setIfInBounds_toArray,List.set_cons_succ,List.set_cons_zero];refine @BigFrame.wpQuiet_skip _ _ _ _ _ _ _ ?_ ?_;kernel_rfl;simp only [Act.put,List.setIfInBounds_toArray,List.set_cons_succ,List.set_cons_zero];refine @BigFrame.wpQuiet_skip _ _ _ _ _ _ _ ?_ ?_;kernel_rfl;simp only [Act.put,List.setIfInBounds_toArray,List.set_cons_succ,List.set_cons_zero];refine @BigFrame.wpQuiet_skip _ _ _ _ _ _ _ ?_ ?_;kernel_rfl;simp only [Act.put,List.setIfInBounds_toArray,List.set_cons_succ,List.set_cons_zero];refine @BigFrame.wpQuiet_want _ _ _ _ _ _ _ ?_ ?_;kernel_rfl;intro K hK;go_simp;refine hK _ ?_;clear hK K;refine wpQuiet_nil ?_;rintro _ ⟨p,rfl⟩;have k2:=regrown_kept (w:=wr) ⟨p,rfl⟩;generalize Go.Sort.grow (redrawn wr p.d) p.os = w2 at k2 |-;clear r1 r2 r3 r4;have Hk2:=hid (hK.out.trans (k2.mono hK.out.size (λk hk _=>by have:=hK.out.size; omega)))
     have Hno2:=hid (HMORE.out rfl);clear k2;go_wp2;exact⟨⟨i + 1,by omega,by rw [Int.natCast_add]; rfl,Hno2,Hk2⟩,by simp only [RowKit.intOf]; omega⟩
   ·obtain rfl:i = L.length:=by omega
    have hnn:Bk.noted L f = false:=Bk.noted_no (λi hi=>hno.out i hi hi)
    have hnote:Bk.note L f = L ++ [f]:=by rw [Bk.note,if_neg he,hnn]; rfl
    have hd2:decide ((L.length:Int) < (L.length:Int)) = false:=decide_eq_false (by omega)
    have ko:=HKW.out;have kal:Kept w.heap.size w.heap.size w (wr.alloc (.cells #[.slice aad f.1.length ac,.slice bad f.2.length bc] 35)):=ko.alloc ko.size _
    have hnew:=heap_new wr (.cells #[.slice aad f.1.length ac,.slice bad f.2.length bc] 35)
    obtain⟨u',w5,hr5,ho5,hg5,hn5⟩:=append_factN (wr.alloc (.cells #[.slice aad f.1.length ac,.slice bad f.2.length bc] 35)) base (.slice ad L.length c) L (HL.out.kept kal (Nat.le_refl _)) (Nat.le_trans hbase kal.size) wr.heap.size 1 _ _ f (HA.out.kept kal (Nat.le_refl _)) (HB.out.kept kal (Nat.le_refl _)) (two_cell0 hnew) (two_cell1 hnew) hn
    have hK5:Kept base base w w5:=(kal.mono hbase (λk hk _=>by omega)).grown hg5 (Nat.le_trans hbase kal.size) (λk h=>by
     obtain⟨ps,_,ho,_⟩:=HL.out
     exact(ho.lt k h).1)
    have hS5:GrowF (.slice ad L.length c) w w5 u':=GrowF.grown kal hg5 hn5;rw [<- hnote] at ho5;obtain⟨i0,z0,hi0,hz0,_,hs0⟩:=fact_info;have hia:(Try.prog.info? 35).map (·.size) = some (#[Value.slice aad f.1.length ac,.slice bad f.2.length bc]:Array Value).size:=by rw [hi0]; simp [hs0]
    have hcs:(#[Value.slice aad f.1.length ac,.slice bad f.2.length bc]:Array Value).size = i0.size:=by rw [hs0]; rfl
    have Hr5:=hid hr5;have Ho5:=hid ho5;have HK5:=hid hK5;have HS5:=hid hS5;have HI0:=hid hi0;have HZ0:=hid hz0;have HS0:=hid hs0;have HIA:=hid hia;have HCS:=hid hcs;clear hr5 ho5 hg5 hK5 hS5 hi0 hz0 hs0 hia hcs hnew kal ko hnn hnote hkw
    go_wp2_with (first
     | (with_reducible refine wpList_load_row rfl 35 _ rfl wa rfl 35 #[.slice aad f.1.length ac,.slice bad f.2.length bc] (0,0) _ HXR.out Try.underlying35 rfl HIA.out ?_)
     | (with_reducible refine wpList_build_one rfl _ 31 35 rfl i0 z0 Try.underlying31 HI0.out HZ0.out #[.slice aad f.1.length ac,.slice bad f.2.length bc] rfl HCS.out (by rw [HS0.out]; decide) (by rw [HS0.out]; decide) ?_)
     | (with_reducible refine wpList_append_known rfl _ _ 31 31 31 rfl rfl (.slice ad L.length c) (.slice (some ⟨wr.heap.size,0,none⟩) 1 1) rfl rfl Hr5.out ?_))
    refine bodyPost_ret (results_tmp2 rfl _ _ _) rfl ?_;exact⟨_,rfl,Ho5.out,HK5.out,HS5.out⟩
end Go.Proofs.Ytanfnafiofkihaa
namespace Go.Proofs.Ytanfnafiofkihaa
open Go.RowKit Go.Lib
open List renaming setIfInBounds_toArray -> sA, set_cons_zero -> sB, set_cons_succ -> sC
open BigFrame renaming wpList_want -> wQ
theorem pnew_callsT (l:List UInt8)(hl:l.length = 32)(bits:Nat)(h1:1<=bits)(h2:bits<=32)(w:World):Calls Try.prog 24 #[.agg (bcells l).toArray,.int .i64 (bits:Int)] w λe w'=>∃ rb sl,e = .returned (.tuple #[.pointer (some ⟨rb,0,none⟩),.int .i64 0])/\w.heap.size<=rb/\RowIs w' rb bits sl [⟨0,0,l⟩]/\Kept w.heap.size w.heap.size w w'/\Typ w' sl:=by
 have hin:Pp.In bits ⟨0,0,l⟩:=⟨Nat.zero_le _,Nat.one_pos,hl⟩;have hcl:(Pp.cells ⟨0,0,l⟩).length = 34:=Pp.cells_length hin;have hbr:=λw=>build_root w l hl
 have hki:=keyInfo hl;have hf:=λw=>fits_yes (bits:Int) (by omega) (by omega) w
 obtain⟨i0,z0,hi0,hz0,hs0⟩:=seed_info;obtain⟨D,hD⟩:∃ D,D = (Pp.cells ⟨0,0,l⟩).toArray:=⟨_,rfl⟩;have hDs:D.size = 34:=by rw [hD,List.size_toArray,hcl]
 rw [<- hD] at hbr;generalize (bcells l).toArray = C at hbr hki |-;have HF:=hid hf;have HBR:=hid hbr;have HKI:=hid hki;have HI0:=hid hi0;have HZ0:=hid hz0;have HS0:=hid hs0;have HD:=hid hD;have HDS:=hid hDs;clear hf hbr hki hi0 hz0 hs0 hD hDs hcl hin h1 h2 hl
 go_enter Try.func24,Try.ntmps24
 go_upto_region 1 with fail
 have hP:(w.alloc (.cells C 26)).heap[w.heap.size]? = some (.cells C 26 (0,0)):=heap_new _ _
 have k1:Kept w.heap.size w.heap.size w (w.alloc (.cells C 26)):=(Kept.refl _ _ _).alloc (Nat.le_refl _) _
 generalize w.alloc (.cells C 26) = w1 at hP k1 |-
 obtain⟨wa,hwa⟩:∃ wa,wa = w.heap.size:=⟨_,rfl⟩;rw [<- hwa] at hP |-;have HP:=hid hP;have HK1:=hid k1;have HWA:=hid hwa;clear hP k1 hwa
 go_upto_region 3 with (go_at_call 53; refine(HF.out _).mono ?_; rintro e w2 ⟨rfl,rfl⟩)
 refine wp_region_lit ?_;refine @wQ _ _ _ _ _ _ _ ?hwT ?_
 case hwT=>kernel_rfl
 intro K hK;go_simp;refine hK _ _ ?_;refine wpList_load_row_g ?hwa1 26 _ rfl wa rfl 26 C (0,0) _ HP.out Try.underlying26 rfl HKI.out ?_
 case hwa1=>kernel_rfl
 simp only [Act.put,sA,sB,sC];refine wpList_build_part rfl 101 2 _ rfl _ rfl (HBR.out _) ?_
 simp only [Act.put,sA,sB,sC];refine wpList_build_one_g ?hwa2 _ 102 101 rfl i0 z0 Try.underlying102 HI0.out HZ0.out D rfl (by rw [HS0.out]; exact HDS.out) (by rw [HS0.out]; decide) (by rw [HS0.out]; decide) ?_
 case hwa2=>kernel_rfl
 simp only [Act.put,sA,sB,sC];have hN:(w2.alloc (.cells D 101)).heap[w2.heap.size]? = some (.cells D 101 (0,0)):=heap_new _ _
 have k3:Kept w.heap.size w.heap.size w (w2.alloc (.cells D 101)):=HK1.out.alloc (by have:=HK1.out.size; omega) _
 generalize w2.alloc (.cells D 101) = w4 at hN k3 |-
 obtain⟨g,hg⟩:∃ g,g = w2.heap.size:=⟨_,rfl⟩;rw [<- hg] at hN |-;have hwg:w.heap.size<=g:=by rw [hg]; exact HK1.out.size
 clear hg;have HN:=hid hN;have HK3:=hid k3;have HWG:=hid hwg;clear hN k3 hwg;refine wW λK hK=>?_;go_simp;refine hK _ _ ?_;refine wW λK hK=>?_;go_simp;refine hK _ _ ?_;refine wW λK hK=>?_;go_simp;refine hK _ _ ?_;refine wW λK hK=>?_;go_simp;refine hK _ _ ?_;go_wp2;refine bodyPost_ret (results_tmp2 rfl _ _ _) rfl ?_;have k5:=HK3.out.alloc HK3.out.size (.cells #[.int .i64 (bits:Int),.slice (some ⟨g,0,none⟩) 1 1] 104)
 refine⟨w4.heap.size,.slice (some ⟨g,0,none⟩) 1 1,rfl,HK3.out.size,⟨heap_new _ _,some ⟨g,0,none⟩,g,0,1,rfl,λi hi=>?_,Nat.le_refl _⟩,k5,λk hk=>by
  cases hk
  exact⟨_,_,(Below.heap_alloc _ _ _ (lt_of_block HN.out)).trans HN.out⟩⟩
 have hi0:i = 0:=by
  have:i < 1:=hi
  omega
 subst hi0;have hgl:g < w4.heap.size:=lt_of_block HN.out;refine⟨rfl,?_,?_⟩
 ·show g < (w4.heap.push _).size
  rw [Array.size_push]
  omega
 ·have h1:=row_range HN.out
  rw [HD.out] at h1;exact rangeAt_kept ((Kept.refl w4.heap.size w4.heap.size w4).alloc (Nat.le_refl _) _) h1 hgl (Nat.ne_of_lt hgl)
end Go.Proofs.Ytanfnafiofkihaa
