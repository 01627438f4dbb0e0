/-
 ApOpen; ApFew; ApSame: several texts in one.
-/
import Derived.Test.YtinebhdilnndaaaGreatDoorAA
import Derived.Test.YtinebhdilnndaaaGreatDoorIA
import Derived.Test.YtinebhdilnndaaaGreatDoorHE
import Derived.Test.YtinebhdilnndaaaGreatDoorHK
set_option maxRecDepth 100000
set_option maxHeartbeats 6400000
namespace Go.Proofs.YtinebhdilnndaaaGreatDoor
open Go.ChangeShapes Go.WideShapes Go.ChangeAt Go.RowKit Go.Deep Go.Lib Go.Joins
instance:Inhabited Cg:=⟨Cm.zero⟩
def xcells (lv pv:Value)(ts:List Int)(rv:Value)(ep:List UInt8)(dp by_:Int):List Value:=[lv,pv] ++ (icells ts ++ ([rv] ++ (bcells ep ++ [.int .i64 dp,.int .i64 by_])))
theorem xcells_length (lv pv:Value){ts:List Int}(h:ts.length = 64)(rv:Value){ep:List UInt8}(he:ep.length = 32)(dp by_:Int):(xcells lv pv ts rv ep dp by_).length = 101:=by simp [xcells,icells_length,h,bcells_length,he]
theorem cardCellsA:Tryz.prog.cellsOf 50 = 64:=by kernel_rfl
theorem cardsCellsA:Tryz.prog.cellsOf 51 = 1:=by kernel_rfl
theorem personCellsA:Tryz.prog.cellsOf 53 = 33:=by kernel_rfl
theorem personsCellsA:Tryz.prog.cellsOf 28 = 1:=by kernel_rfl
theorem timesCellsA:Tryz.prog.cellsOf 27 = 64:=by kernel_rfl
theorem placeCellsA:Tryz.prog.cellsOf 32 = 101:=by kernel_rfl
section
variable {H:Type} {enc:TypeId × Value->H} {w:World} {fuel:Nat} {cs:List Value} {x:DataW H × List MemPlace}
theorem open_cards_cells (h:DataW.trod enc Tryz.prog w 0 (λ_=>true) true fuel 51 cs = some x):∃ v C,cs = [v]/\Cds w v C:=by
 rcases open_slice Tryz.underlying51 h with rfl | ⟨a,len,cap,rfl,n,EE,RR,hEE,hel⟩
 ·exact⟨_,[],rfl,none,0,0,0,rfl,λi hi=>absurd hi (Nat.not_lt_zero _)⟩
 ·rw [cardCellsA] at hel
  have key:∀ i,i < len->∃ c:List UInt8 × List UInt8,CdOk c/\a.spot = none/\a.block < w.heap.size/\w.rangeAt a.block (a.off + i * 64) (cdCells c):=λi hi=>by
   obtain⟨es,y,h1,h2,_⟩:=hel i hi;obtain⟨y0,y1,m,_,hl,g0,g1⟩:=trod_struct2 Tryz.underlying50 h2
   rw [cardCellsA] at hl;simp only at g0 g1;rw [hashCells30] at g0 g1;obtain⟨la,hla,ha⟩:=open_hash_cells g0;obtain⟨lb,hlb,hb⟩:=open_hash_cells g1
   have e1:a.spot = none:=by
    obtain⟨_,_,h0,_⟩:=hel 0 (by omega)
    exact spot_of (by decide) h0
   obtain⟨e2,_,e3⟩:=cells_spot e1 (by decide) h1
   refine⟨(la,lb),⟨hla,hlb⟩,e1,e2,λj u hj=>e3 j u ?_⟩
   have hsplit:es = (es.drop 0).take 32 ++ (es.drop 32).take 32:=by
    have e32:(es.drop 32).take 32 = es.drop 32:=List.take_of_length_le (by rw [List.length_drop]; omega)
    rw [e32,List.drop_zero,List.take_append_drop]
   rw [hsplit,ha,hb];exact hj
  obtain⟨f,hf⟩:=choose_lt (α:=List UInt8 × List UInt8) key;refine⟨_,(List.range len).map f,rfl,some a,a.block,a.off,cap,by simp,λi hi=>?_⟩
  have hi':i < len:=by simpa using hi
  obtain⟨hok,e1,e2,e3⟩:=hf i hi';refine⟨?_,e2,?_,?_⟩
  ·obtain⟨g,o,s⟩:=a
   simp only at e1;subst e1
   rfl
  ·simpa using hok
  ·simpa using e3
theorem open_persons_cells (h:DataW.trod enc Tryz.prog w 0 (λ_=>true) true fuel 28 cs = some x):∃ v R,cs = [v]/\Pns w v R:=by
 rcases open_slice Tryz.underlying28 h with rfl | ⟨a,len,cap,rfl,n,EE,RR,hEE,hel⟩
 ·exact⟨_,[],rfl,none,0,0,0,rfl,λi hi=>absurd hi (Nat.not_lt_zero _)⟩
 ·rw [personCellsA] at hel
  have key:∀ i,i < len->∃ p:Pn,p.ver.length = 32/\a.spot = none/\a.block < w.heap.size/\∃ cv,w.rangeAt a.block (a.off + i * 33) (p.cells cv)/\Cds w cv p.cards:=λi hi=>by
   obtain⟨es,y,h1,h2,_⟩:=hel i hi;obtain⟨y0,y1,m,_,hl,g0,g1⟩:=trod_struct2 Tryz.underlying53 h2
   rw [personCellsA] at hl;simp only at g0 g1;rw [hashCells30] at g0;rw [cardsCellsA] at g1;obtain⟨la,hla,ha⟩:=open_hash_cells g0;obtain⟨cv,C,hc,hC⟩:=open_cards_cells g1
   have e1:a.spot = none:=by
    obtain⟨_,_,h0,_⟩:=hel 0 (by omega)
    exact spot_of (by decide) h0
   obtain⟨e2,_,e3⟩:=cells_spot e1 (by decide) h1
   refine⟨⟨la,C⟩,hla,e1,e2,cv,λj u hj=>e3 j u ?_,hC⟩
   have hsplit:es = (es.drop 0).take 32 ++ (es.drop 32).take 1:=by
    have e32:(es.drop 32).take 1 = es.drop 32:=List.take_of_length_le (by rw [List.length_drop]; omega)
    rw [e32,List.drop_zero,List.take_append_drop]
   rw [hsplit,ha,hc];exact hj
  obtain⟨f,hf⟩:=choose_lt (α:=Pn) key;refine⟨_,(List.range len).map f,rfl,some a,a.block,a.off,cap,by simp,λi hi=>?_⟩
  have hi':i < len:=by simpa using hi
  obtain⟨hok,e1,e2,cv,e3,hs⟩:=hf i hi';refine⟨?_,e2,?_,cv,?_,?_⟩
  ·obtain⟨g,o,s⟩:=a
   simp only at e1;subst e1
   rfl
  ·simpa using hok
  ·simpa using e3
  ·simpa using hs
theorem open_times_cells (h:DataW.trod enc Tryz.prog w 0 (λ_=>true) true fuel 27 cs = some x):∃ ts:List Int,ts.length = 64/\cs = icells ts:=by
 obtain⟨xs,m,_,_,hl,hn,hel⟩:=DataW.trod_array Tryz.underlying27 h
 rw [timesCellsA] at hl
 have key:∀ i,i < 64->∃ c:Int,cs[i]? = some (.int .i64 c):=λi hi=>by
  have h1:=hel i hi;rw [intCells8,Nat.mul_one,List.getElem?_eq_getElem (by omega)] at h1
  obtain⟨n,h2,_⟩:=DataW.trod_int Tryz.underlying3 h1
  exact⟨n,hash_one_at _ _ _ h2⟩
 obtain⟨f,hf⟩:=choose_lt (α:=Int) key;refine⟨(List.range 64).map f,by simp,?_⟩
 apply List.ext_getElem?;intro i
 by_cases hi:i < 64
 ·rw [hf i hi]
  simp [icells,hi]
 ·rw [List.getElem?_eq_none (by omega),List.getElem?_eq_none (by simp [icells]; omega)]
end
theorem open_place {H:Type}{enc:TypeId × Value->H}{w:World}{base:Nat}{v:Value}{d:DataW H}{q:List MemPlace}(hv:Value.okWide Tryz.prog w .any base 32 v)(h:DataW.Trod enc Tryz.prog w 0 (λ_=>true) true 32 v d q):
  ∃ lv pv rv L P R ts ep dp by_,v = .agg (xcells lv pv ts rv ep dp by_).toArray/\Lvs w lv L/\Pts w pv P/\Pns w rv R/\ts.length = 64/\ep.length = 32:=by
 unfold Value.okWide at hv;rw [Tryz.underlying32] at hv
 obtain⟨cs,rfl,_⟩:=hv;obtain⟨fuel,hf⟩:=h;obtain⟨y0,y1,y2,y3,y4,y5,m,hl,g0,g1,g2,g3,g4,g5⟩:=trod_struct6 Tryz.underlying32 hf
 rw [placeCellsA] at hl;simp only at g0 g1 g2 g3 g4 g5;rw [treeCells] at g0;rw [timesCellsA] at g1;rw [personsCellsA] at g2;rw [hashCells30] at g3;rw [intCells8] at g4 g5;obtain⟨z0,z1,m2,_,hl2,e0,e1⟩:=trod_struct2 Tryz.underlying25 g0
 rw [treeCells] at hl2;simp only at e0 e1;rw [leavesCells] at e0;rw [parentsCells] at e1;obtain⟨lv,L,hcl,hL⟩:=open_leaves_cells e0;obtain⟨pv,P,hcp,hP⟩:=open_parents_cells e1;obtain⟨ts,hts,hct⟩:=open_times_cells g1;obtain⟨rv,R,hcr,hR⟩:=open_persons_cells g2;obtain⟨ep,hep,hce⟩:=open_hash_cells g3;obtain⟨dp,hdp,_⟩:=DataW.trod_int Tryz.underlying3 g4
 obtain⟨by_,hby,_⟩:=DataW.trod_int Tryz.underlying3 g5
 refine⟨lv,pv,rv,L,P,R,ts,ep,dp,by_,?_,hL,hP,hR,hts,hep⟩
 obtain⟨es,hes⟩:∃ es:List Value,es = cs.toList:=⟨_,rfl⟩;have hc:(Value.agg cs).cells.toList = es:=by rw [hes]; rfl
 rw [hc] at hl hl2 hcl hcp hct hcr hce hdp hby
 have hx:(es.drop 0).take 2 = [lv,pv]:=by
  generalize (es.drop 0).take 2 = X at hl2 hcl hcp
  match X,hl2 with
  | [u,v],_=>
   simp at hcl hcp;rw [hcl,hcp]
 have e:es = xcells lv pv ts rv ep dp by_:=by
  have h1:=cut_next es 0 2 2 rfl;have h2:=cut_next es 2 64 66 rfl;have h3:=cut_next es 66 1 67 rfl;have h4:=cut_next es 67 32 99 rfl;have h5:=cut_next es 99 1 100 rfl;rw [List.drop_zero] at h1 hx;rw [h1,h2,h3,h4,h5,show es.drop 100 = (es.drop 100).take 1 from(List.take_of_length_le (by rw [List.length_drop]; omega)).symm]
  rw [hx,hct,hcr,hce,hdp,hby]
  rfl
 exact congrArg Value.agg (Array.ext' (hes ▸ e))
theorem open_cg_cells {H:Type}{enc:TypeId × Value->H}{w:World}{fuel:Nat}{es:List Value}{x:DataW H × List MemPlace}(hf:DataW.trod enc Tryz.prog w 0 (λ_=>true) true fuel 46 es = some x):∃ p:Cg,p.Ok/\es = p.cells:=by
 obtain⟨y0,y1,y2,y3,y4,y5,m,hl,g0,g1,g2,g3,g4,g5⟩:=trod_struct6 Tryz.underlying46 hf
 rw [cgCells10] at hl;simp only at g0 g1 g2 g3 g4 g5;rw [intCells10] at g1 g2 g3;rw [hashCells30] at g0 g5;rw [chgCells10] at g4;obtain⟨z0,z1,z2,m2,_,hl2,e0,e1,e2⟩:=trod_struct3 Tryz.underlying44 g4
 rw [chgCells10] at hl2;simp only at e0 e1 e2;rw [intCells10] at e0 e1;rw [hashCells30] at e2;obtain⟨dp,hdp,_⟩:=DataW.trod_int Tryz.underlying3 g1
 obtain⟨au,hau,_⟩:=DataW.trod_int Tryz.underlying3 g2
 obtain⟨sq,hsq,_⟩:=DataW.trod_int Tryz.underlying3 g3
 obtain⟨kd,hkd,_⟩:=DataW.trod_int Tryz.underlying3 e0
 obtain⟨nm,hnm,_⟩:=DataW.trod_int Tryz.underlying3 e1
 obtain⟨le,hle,he⟩:=open_hash_cells g0;obtain⟨ls,hls,hs⟩:=open_hash_cells g5;obtain⟨lp,hlp,hp⟩:=open_hash_cells e2;refine⟨⟨le,dp,au,sq,kd,nm,lp,ls⟩,⟨hle,hlp,hls⟩,?_⟩
 have hx:(es.drop 35).take 34 = [.int .i64 kd] ++ ([.int .i64 nm] ++ bcells lp):=by
  generalize (es.drop 35).take 34 = X at hl2 hkd hnm hp;rw [<- hkd,<- hnm,<- hp,show(X.drop 2).take 32 = X.drop 2 from List.take_of_length_le (by rw [List.length_drop]; omega),<- cut_next X 1 1 2 rfl,<- cut_next X 0 1 1 rfl,List.drop_zero]
 have e:es = Cg.cells ⟨le,dp,au,sq,kd,nm,lp,ls⟩:=by
  have h1:=cut_next es 0 32 32 rfl;have h2:=cut_next es 32 1 33 rfl;have h3:=cut_next es 33 1 34 rfl;have h4:=cut_next es 34 1 35 rfl;have h5:=cut_next es 35 34 69 rfl;rw [List.drop_zero] at he h1;rw [h1,h2,h3,h4,h5,show es.drop 69 = (es.drop 69).take 32 from(List.take_of_length_le (by rw [List.length_drop]; omega)).symm]
  rw [he,hdp,hau,hsq,hx,hs]
  rfl
 exact e
theorem open_cgs {H:Type}{enc:TypeId × Value->H}{w:World}{v:Value}{d:DataW H}{p:List MemPlace}(hv:∃ ao len cap,v = .slice ao len cap)(h:DataW.Trod enc Tryz.prog w 0 (λ_=>true) true 33 v d p):∃ A,Cgs w v A:=by
 obtain⟨ao,len,cap,rfl⟩:=hv;obtain⟨fuel,hf⟩:=h
 rcases open_slice Tryz.underlying33 hf with hc | ⟨a,len',cap',hc,n,EE,RR,hEE,hel⟩
 ·simp [Value.cells] at hc
  obtain⟨rfl,rfl,rfl⟩:=hc;exact⟨[],none,0,0,0,rfl,λi hi=>absurd hi (Nat.not_lt_zero _)⟩
 ·simp [Value.cells] at hc
  obtain⟨rfl,rfl,rfl⟩:=hc;rw [cgCells10] at hel
  have key:∀ i,i < len->∃ p:Cg,p.Ok/\a.spot = none/\a.block < w.heap.size/\w.rangeAt a.block (a.off + i * 101) p.cells:=λi hi=>by
   obtain⟨es,y,h1,h2,_⟩:=hel i hi;obtain⟨p,hok,hpc⟩:=open_cg_cells h2
   have e1:a.spot = none:=by
    obtain⟨_,_,h0,_⟩:=hel 0 (by omega)
    exact spot_of (by decide) h0
   obtain⟨e2,_,e3⟩:=cells_spot e1 (by decide) h1
   exact⟨p,hok,e1,e2,λj u hj=>e3 j u (by rw [hpc]; exact hj)⟩
  obtain⟨f,hf⟩:=choose_lt (α:=Cg) key;refine⟨(List.range len).map f,some a,a.block,a.off,cap,by simp,λi hi=>?_⟩
  have hi':i < len:=by simpa using hi
  obtain⟨hok,e1,e2,e3⟩:=hf i hi';refine⟨?_,e2,?_,?_⟩
  ·obtain⟨g,o,s⟩:=a
   simp only at e1;subst e1
   rfl
  ·simpa using hok
  ·simpa using e3
end Go.Proofs.YtinebhdilnndaaaGreatDoor
namespace Go.Proofs.YtinebhdilnndaaaGreatDoor
open Go.RowKit Go.Lib
open List renaming setIfInBounds_toArray -> sA, set_cons_zero -> sB, set_cons_succ -> sC
open BigFrame renaming wpList_want -> wQ
def fewB (L:List Lf)(P:List Pr)(R:List Pn):Bool:=decide (L.length<=70) && (decide (P.length<=70) && (decide (R.length<=70) && (P.all (λp=>decide (p.loose.length<=70)) && R.all (λp=>decide (p.cards.length<=70)))))
section
variable {L:List Lf} {P:List Pr} {R:List Pn}
theorem few_iff:fewB L P R = true↔L.length<=70/\P.length<=70/\R.length<=70/\(∀ p∈P,p.loose.length<=70)/\∀ p∈R,p.cards.length<=70:=by
 simp only [fewB,Bool.and_eq_true,decide_eq_true_eq,List.all_eq_true]
theorem few_yes (h1:L.length<=70)(h2:P.length<=70)(h3:R.length<=70)(h4:∀ p∈P,p.loose.length<=70)(h5:∀ p∈R,p.cards.length<=70):fewB L P R = true:=few_iff.2 ⟨h1,h2,h3,h4,h5⟩
theorem few_not (h:¬ (L.length<=70/\P.length<=70/\R.length<=70/\(∀ p∈P,p.loose.length<=70)/\∀ p∈R,p.cards.length<=70)):fewB L P R = false:=by
 cases hb:fewB L P R with
 | false=>rfl
 | true=>exact absurd (few_iff.1 hb) h
theorem few_no1 (h:¬ L.length<=70):fewB L P R = false:=few_not λq=>h q.1
theorem few_no2 (h:¬ P.length<=70):fewB L P R = false:=few_not λq=>h q.2.1
theorem few_no3 (h:¬ R.length<=70):fewB L P R = false:=few_not λq=>h q.2.2.1
theorem few_no4 {p:Pr}(hp:p∈P)(h:¬ p.loose.length<=70):fewB L P R = false:=few_not λq=>h (q.2.2.2.1 p hp)
theorem few_no5 {p:Pn}(hp:p∈R)(h:¬ p.cards.length<=70):fewB L P R = false:=few_not λq=>h (q.2.2.2.2 p hp)
end
section
variable {w:World} {xb:Nat} {lv pv rv:Value} {ts:List Int} {ep:List UInt8} {dp by_:Int} {t:TypeId} {fz:Nat × Nat}
theorem x_tree (h:w.heap[xb]? = some (.cells (xcells lv pv ts rv ep dp by_).toArray t fz)):∀ j v,[lv,pv][j]? = some v->w.cell? ⟨xb,j,none⟩ = some v:=λj v hj=>by
 have:=row_part10 h [] [lv,pv] _ rfl 0 rfl j v hj
 rwa [Nat.zero_add] at this
theorem x_range (h:w.heap[xb]? = some (.cells (xcells lv pv ts rv ep dp by_).toArray t fz)):w.rangeAt xb 0 [lv,pv]:=row_part10 h [] [lv,pv] _ rfl 0 rfl
theorem x_times (h:w.heap[xb]? = some (.cells (xcells lv pv ts rv ep dp by_).toArray t fz)):w.rangeAt xb 2 (icells ts):=row_part10 h [lv,pv] (icells ts) _ rfl 2 rfl
theorem x_roll (h:w.heap[xb]? = some (.cells (xcells lv pv ts rv ep dp by_).toArray t fz))(h64:ts.length = 64):w.cell? ⟨xb,66,none⟩ = some rv:=
 row_part10 h ([lv,pv] ++ icells ts) [rv] (bcells ep ++ [.int .i64 dp,.int .i64 by_]) (by simp [xcells]) 66 (by simp [icells_length,h64]) 0 _ rfl
end
theorem parent_loose {w:World}{g o:Nat}{p:Pr}{s:Value}(h:w.rangeAt g o (p.cells s))(ok:p.Ok):w.cell? ⟨g,o + 65,none⟩ = some s:=h 65 s (by
 unfold Pr.cells;rw [List.getElem?_cons_succ,List.getElem?_append_right (by rw [bcells_length,ok.1]; decide),bcells_length,ok.1,List.getElem?_append_right (by rw [bcells_length,ok.2]; decide),bcells_length,ok.2]
 rfl)
theorem few_calls10 (lv pv rv:Value)(L:List Lf)(P:List Pr)(R:List Pn)(ts:List Int)(ep:List UInt8)(dp by_:Int)(w:World)(hL:Lvs w lv L)(hP:Pts w pv P)(hR:Pns w rv R)(h64:ts.length = 64)(_hep:ep.length = 32):
  Calls Tryz.prog 8 #[.agg (xcells lv pv ts rv ep dp by_).toArray] w λe w'=>e = .returned (.bool (fewB L P R))/\Kept w.heap.size w.heap.size w w':=by
 obtain⟨lad,lc,rfl⟩:=hL.shape;obtain⟨pad,pc,rfl⟩:=hP.shape;obtain⟨rad,rc,rfl⟩:=hR.shape;obtain⟨ln,hln⟩:∃ q,q = L.length:=⟨_,rfl⟩;obtain⟨pn,hpn⟩:∃ q,q = P.length:=⟨_,rfl⟩;obtain⟨rn,hrn⟩:∃ q,q = R.length:=⟨_,rfl⟩;rw [<- hpn] at hP;rw [<- hrn] at hR;rw [<- hln,<- hpn,<- hrn];have HLN:=hid hln;have HPN:=hid hpn;have HRN:=hid hrn;obtain⟨XD,hXD⟩:∃ D,D = (xcells (.slice lad ln lc) (.slice pad pn pc) ts (.slice rad rn rc) ep dp by_).toArray:=⟨_,rfl⟩
 rw [<- hXD];have HXD:=hid hXD;have HP:=hid hP;have HR:=hid hR;have H64:=hid h64;have k1:Kept w.heap.size w.heap.size w (w.alloc (.cells XD 32)):=(Kept.refl _ _ _).alloc (Nat.le_refl _) _
 have r1:=heap_new w (.cells XD 32)
 clear hln hpn hrn hXD hL hP hR h64 _hep
 go_enter Tryz.func8,Tryz.ntmps8
 go_upto_region 1 with fail
 generalize w.alloc (.cells XD 32) = w1 at k1 r1 |-
 obtain⟨xb,hxb⟩:∃ n,n = w.heap.size:=⟨_,rfl⟩;rw [<- hxb] at r1
 (try rw [<- hxb])
 have K1:=hid k1
 have c0:w1.cell? ⟨xb,0,none⟩ = some (.slice lad ln lc):=by
  have h:=r1;rw [HXD.out] at h;exact x_tree h 0 _ rfl
 have c1:w1.cell? ⟨xb,1,none⟩ = some (.slice pad pn pc):=by
  have h:=r1;rw [HXD.out] at h;exact x_tree h 1 _ rfl
 have c2:w1.cell? ⟨xb,66,none⟩ = some (.slice rad rn rc):=by
  have h:=r1;rw [HXD.out] at h;exact x_roll h H64.out
 have C0:=hid (load_slice (d:=.int .u8) c0 (.inl rfl) rfl);have C1:=hid (load_slice (d:=.int .u8) c1 (.inr rfl) rfl);have C2:=hid (load_slA (t:=28) c2 (.inl rfl))
 clear hxb r1 k1 c0 c1 c2
 by_cases h1:ln<=70
 ·have hl1:¬ (ln:Int) > 70:=by omega
  by_cases h2:pn<=70
  ·have hl2:¬ (pn:Int) > 70:=by omega
   by_cases h3:rn<=70
   ·have hl3:¬ (rn:Int) > 70:=by omega
    have HSZ:=hid (show L.length<=70/\P.length<=70/\R.length<=70 by rw [<- HLN.out,<- HPN.out,<- HRN.out]; exact⟨h1,h2,h3⟩)
    have hpn7:(pn:Int)<=70:=by omega
    have hrn7:(rn:Int)<=70:=by omega
    clear h1 h2 h3
    as_aux_lemma=>
     go_upto_region 1 with fail
     refine wp_region_lit ?_;iterate 2 (refine wW λK hK=>?_;go_simp;apply hK;clear hK K)
     refine wLk 22 (.tmp 6) rfl (xb) (0) rfl (.slice lad ln lc) (C0.out) ?_
     simp only [Act.put,sA,sB,sC];iterate 5 (refine wW λK hK=>?_;go_simp;apply hK;clear hK K)
     refine wLk 23 (.tmp 12) rfl (xb) (1) rfl (.slice pad pn pc) (C1.out) ?_
     simp only [Act.put,sA,sB,sC];iterate 5 (refine wW λK hK=>?_;go_simp;apply hK;clear hK K)
     refine wLk 28 (.tmp 18) rfl (xb) (66) rfl (.slice rad rn rc) (C2.out) ?_
     simp only [Act.put,sA,sB,sC];iterate 3 (refine wW λK hK=>?_;go_simp;apply hK;clear hK K)
     go_upto_region 3 with fail
     refine wp_region_lit ?_;refine wW λK hK=>?_;go_simp;apply hK;clear hK K
     go_wp2_with fail
     go_loopw [3] (λs3 x=>x = w1/\∃ i:Nat,s3 = .int .i64 (i:Int)/\Hid (i<=pn)/\Hid (∀ j (hj:j < P.length),j < i->P[j].loose.length<=70)) (λs3 _=>pn - (RowKit.intOf s3).toNat)
     case atStart=>exact⟨rfl,0,rfl,hid (Nat.zero_le _),hid (λj _ h=>absurd h (Nat.not_lt_zero j))⟩
     case round=>
      obtain⟨hwr,i,rfl,hi,HI⟩:=hrel;subst hwr
      by_cases hlt:i < pn
      ·have hlti:(i:Int) < (pn:Int):=by omega
       have hi0:¬ (i:Int) < 0:=by omega
       have hiP:i < P.length:=by rw [<- HPN.out]; exact hlt
       obtain⟨pad',pg,po,pc',hsl,hcell,_⟩:=HP.out;rw [<- HPN.out] at hsl;injection hsl with e1 e2 e3
       subst e1 e3;clear e2;obtain⟨had,hg,hok,sl,hr,hn⟩:=hcell i hiP;subst had;obtain⟨sad,sc,ng,no,hsv,hnn⟩:=hn;obtain⟨sn,hsn⟩:∃ q,q = P[i].loose.length:=⟨_,rfl⟩;rw [<- hsn] at hsv;subst hsv;have hlc:wr.cell? ⟨pg,po + i * 66 + 65,none⟩ = some (.slice sad sn sc):=parent_loose (range_kept10 hr hg K1.out) hok;have HLC:=hid (load_slA (t:=38) hlc (.inr (.inr rfl)))
       have HIX:=hid hiP;have HSN:=hid (show sn = (P[i]'HIX.out).loose.length from hsn);have HLT:=hid hlt;clear hr hlc hok hg hnn hsn hcell hlt hiP
       by_cases hs:sn<=70
       ·have hs1:¬ (sn:Int) > 70:=by omega
        have HS:=hid hs;clear hs
        as_aux_lemma=>
         go_upto_region 4 with fail
         refine wp_region_lit ?_;iterate 3 (refine wW λK hK=>?_;go_simp;apply hK;clear hK K)
         refine wLk 23 (.tmp 25) rfl (xb) (1) rfl (.slice (some ⟨pg,po,none⟩) pn pc) (C1.out) ?_
         simp only [Act.put,sA,sB,sC];iterate 2 (refine wW λK hK=>?_;go_simp;apply hK;clear hK K)
         go_upto_region 6 with fail
         refine wp_region_lit ?_;iterate 2 (refine wW λK hK=>?_;go_simp;apply hK;clear hK K)
         refine wLk 23 (.tmp 32) rfl (xb) (1) rfl (.slice (some ⟨pg,po,none⟩) pn pc) (C1.out) ?_
         simp only [Act.put,sA,sB,sC];iterate 3 (refine wW λK hK=>?_;go_simp;apply hK;clear hK K)
         refine wLk 38 (.tmp 36) rfl (pg) (po + i * 66 + 65) rfl (.slice sad sn sc) (HLC.out) ?_
         simp only [Act.put,sA,sB,sC];iterate 2 (refine wW λK hK=>?_;go_simp;apply hK;clear hK K)
         go_wp2
         go_roundw
         case rel=>
          refine⟨trivial,i + 1,by simp,hid HLT.out,hid (λj hj h=>?_)⟩
          by_cases hji:j = i
          ·subst hji; rw [<- HSN.out]; exact HS.out
          ·exact HI.out j hj (by omega)
         case measure=>have:=HLT.out; simp [RowKit.intOf]; omega
       ·have hs1:(sn:Int) > 70:=by omega
        have HNO:=hid (few_no4 (L:=L) (P:=P) (R:=R) (List.getElem_mem HIX.out) (by rw [<- HSN.out]; exact hs))
        clear hs
        as_aux_lemma=>
         go_upto_region 4 with fail
         refine wp_region_lit ?_;iterate 3 (refine wW λK hK=>?_;go_simp;apply hK;clear hK K)
         refine wLk 23 (.tmp 25) rfl (xb) (1) rfl (.slice (some ⟨pg,po,none⟩) pn pc) (C1.out) ?_
         simp only [Act.put,sA,sB,sC];iterate 2 (refine wW λK hK=>?_;go_simp;apply hK;clear hK K)
         go_upto_region 6 with fail
         refine wp_region_lit ?_;iterate 2 (refine wW λK hK=>?_;go_simp;apply hK;clear hK K)
         refine wLk 23 (.tmp 32) rfl (xb) (1) rfl (.slice (some ⟨pg,po,none⟩) pn pc) (C1.out) ?_
         simp only [Act.put,sA,sB,sC];iterate 3 (refine wW λK hK=>?_;go_simp;apply hK;clear hK K)
         refine wLk 38 (.tmp 36) rfl (pg) (po + i * 66 + 65) rfl (.slice sad sn sc) (HLC.out) ?_
         simp only [Act.put,sA,sB,sC];iterate 2 (refine wW λK hK=>?_;go_simp;apply hK;clear hK K)
         go_upto_region 7 with fail
         refine wp_region_lit ?_;refine wW λK hK=>?_;go_simp;apply hK;clear hK K;go_wp2;go_ret;exact⟨by rw [HNO.out]; rfl,K1.out⟩
      ·have hnl:¬ (i:Int) < (pn:Int):=by omega
       have HALL:=hid (show ∀ p∈P,p.loose.length<=70 from λp hp=>by
        obtain⟨j,hj,rfl⟩:=List.getElem_of_mem hp
        exact HI.out j hj (by have:=HPN.out; omega))
       clear hlt HI hi
       as_aux_lemma=>
        go_upto_region 4 with fail
        refine wp_region_lit ?_;iterate 3 (refine wW λK hK=>?_;go_simp;apply hK;clear hK K)
        refine wLk 23 (.tmp 25) rfl (xb) (1) rfl (.slice pad pn pc) (C1.out) ?_
        simp only [Act.put,sA,sB,sC];iterate 2 (refine wW λK hK=>?_;go_simp;apply hK;clear hK K)
        go_upto_region 8 with fail
        refine wp_region_lit ?_;refine wW λK hK=>?_;go_simp;apply hK;clear hK K;obtain⟨wA,hwA⟩:∃ a,a = wr:=⟨_,rfl⟩;rw [<- hwA] at K1 C0 C1 C2 |-;clear hwA
        go_wp2_with fail
        go_loopw [4] (λs4 x=>x = wA/\∃ i:Nat,s4 = .int .i64 (i:Int)/\Hid (i<=rn)/\Hid (∀ j (hj:j < R.length),j < i->R[j].cards.length<=70)) (λs4 _=>rn - (RowKit.intOf s4).toNat)
        case atStart=>exact⟨rfl,0,rfl,hid (Nat.zero_le _),hid (λj _ h=>absurd h (Nat.not_lt_zero j))⟩
        case round=>
         obtain⟨hwr,i,rfl,hi,HI⟩:=hrel;subst hwr
         by_cases hlt:i < rn
         ·have hlti:(i:Int) < (rn:Int):=by omega
          have hi0:¬ (i:Int) < 0:=by omega
          have hiP:i < R.length:=by rw [<- HRN.out]; exact hlt
          obtain⟨rad',rg,ro,rc',hsl,hcell⟩:=HR.out;rw [<- HRN.out] at hsl;injection hsl with e1 e2 e3
          subst e1 e3;clear e2;obtain⟨had,hg,hver,cv,hr,hcd⟩:=hcell i hiP;subst had;obtain⟨cad,cg,co,cc,hsv,hnn⟩:=hcd;obtain⟨cn,hcn⟩:∃ q,q = R[i].cards.length:=⟨_,rfl⟩;rw [<- hcn] at hsv;subst hsv;have hlc:=person_cards (range_kept10 hr hg K1.out) hver;have HLC:=hid (load_slA (t:=51) hlc (.inr (.inl rfl)))
          have HIX:=hid hiP;have HSN:=hid (show cn = (R[i]'HIX.out).cards.length from hcn);have HLT:=hid hlt;clear hr hlc hver hg hnn hcn hcell hlt hiP
          by_cases hs:cn<=70
          ·have hs1:¬ (cn:Int) > 70:=by omega
           have HS:=hid hs;clear hs
           as_aux_lemma=>
            go_upto_region 9 with fail
            refine wp_region_lit ?_;iterate 2 (refine wW λK hK=>?_;go_simp;apply hK;clear hK K)
            refine wLk 28 (.tmp 41) rfl (xb) (66) rfl (.slice (some ⟨rg,ro,none⟩) rn rc) (C2.out) ?_
            simp only [Act.put,sA,sB,sC];iterate 2 (refine wW λK hK=>?_;go_simp;apply hK;clear hK K)
            go_upto_region 11 with fail
            refine wp_region_lit ?_;refine wW λK hK=>?_;go_simp;apply hK;clear hK K;refine wLk 28 (.tmp 47) rfl (xb) (66) rfl (.slice (some ⟨rg,ro,none⟩) rn rc) (C2.out) ?_
            simp only [Act.put,sA,sB,sC];iterate 3 (refine wW λK hK=>?_;go_simp;apply hK;clear hK K)
            refine wLk 51 (.tmp 51) rfl (rg) (ro + i * 33 + 32) rfl (.slice cad cn cc) (HLC.out) ?_
            simp only [Act.put,sA,sB,sC];iterate 2 (refine wW λK hK=>?_;go_simp;apply hK;clear hK K)
            go_wp2
            go_roundw
            case rel=>
             refine⟨trivial,i + 1,by simp,hid HLT.out,hid (λj hj h=>?_)⟩
             by_cases hji:j = i
             ·subst hji; rw [<- HSN.out]; exact HS.out
             ·exact HI.out j hj (by omega)
            case measure=>have:=HLT.out; simp [RowKit.intOf]; omega
          ·have hs1:(cn:Int) > 70:=by omega
           have HNO:=hid (few_no5 (L:=L) (P:=P) (R:=R) (List.getElem_mem HIX.out) (by rw [<- HSN.out]; exact hs))
           clear hs
           as_aux_lemma=>
            go_upto_region 9 with fail
            refine wp_region_lit ?_;iterate 2 (refine wW λK hK=>?_;go_simp;apply hK;clear hK K)
            refine wLk 28 (.tmp 41) rfl (xb) (66) rfl (.slice (some ⟨rg,ro,none⟩) rn rc) (C2.out) ?_
            simp only [Act.put,sA,sB,sC];iterate 2 (refine wW λK hK=>?_;go_simp;apply hK;clear hK K)
            go_upto_region 11 with fail
            refine wp_region_lit ?_;refine wW λK hK=>?_;go_simp;apply hK;clear hK K;refine wLk 28 (.tmp 47) rfl (xb) (66) rfl (.slice (some ⟨rg,ro,none⟩) rn rc) (C2.out) ?_
            simp only [Act.put,sA,sB,sC];iterate 3 (refine wW λK hK=>?_;go_simp;apply hK;clear hK K)
            refine wLk 51 (.tmp 51) rfl (rg) (ro + i * 33 + 32) rfl (.slice cad cn cc) (HLC.out) ?_
            simp only [Act.put,sA,sB,sC];iterate 2 (refine wW λK hK=>?_;go_simp;apply hK;clear hK K)
            go_upto_region 12 with fail
            refine wp_region_lit ?_;refine wW λK hK=>?_;go_simp;apply hK;clear hK K;go_wp2;go_ret;exact⟨by rw [HNO.out]; rfl,K1.out⟩
         ·have hnl:¬ (i:Int) < (rn:Int):=by omega
          have HYES:=hid (few_yes (L:=L) (P:=P) (R:=R) HSZ.out.1 HSZ.out.2.1 HSZ.out.2.2 HALL.out (λp hp=>by
           obtain⟨j,hj,rfl⟩:=List.getElem_of_mem hp
           exact HI.out j hj (by have:=HRN.out; omega)))
          clear hlt HI hi
          as_aux_lemma=>
           go_upto_region 9 with fail
           refine wp_region_lit ?_;iterate 2 (refine wW λK hK=>?_;go_simp;apply hK;clear hK K)
           refine wLk 28 (.tmp 41) rfl (xb) (66) rfl (.slice rad rn rc) (C2.out) ?_
           simp only [Act.put,sA,sB,sC];iterate 2 (refine wW λK hK=>?_;go_simp;apply hK;clear hK K)
           go_upto_region 13 with fail
           refine wp_region_lit ?_;refine wW λK hK=>?_;go_simp;apply hK;clear hK K;go_wp2;go_ret;exact⟨by rw [HYES.out]; rfl,K1.out⟩
   ·have hl3:(rn:Int) > 70:=by omega
    have HNO:=hid (few_no3 (L:=L) (P:=P) (R:=R) (by rw [<- HRN.out]; exact h3))
    clear h1 h2 h3
    as_aux_lemma=>
     go_upto_region 1 with fail
     refine wp_region_lit ?_;iterate 2 (refine wW λK hK=>?_;go_simp;apply hK;clear hK K)
     refine wLk 22 (.tmp 6) rfl (xb) (0) rfl (.slice lad ln lc) (C0.out) ?_
     simp only [Act.put,sA,sB,sC];iterate 5 (refine wW λK hK=>?_;go_simp;apply hK;clear hK K)
     refine wLk 23 (.tmp 12) rfl (xb) (1) rfl (.slice pad pn pc) (C1.out) ?_
     simp only [Act.put,sA,sB,sC];iterate 5 (refine wW λK hK=>?_;go_simp;apply hK;clear hK K)
     refine wLk 28 (.tmp 18) rfl (xb) (66) rfl (.slice rad rn rc) (C2.out) ?_
     simp only [Act.put,sA,sB,sC];iterate 3 (refine wW λK hK=>?_;go_simp;apply hK;clear hK K)
     go_upto_region 2 with fail
     refine wp_region_lit ?_;refine wW λK hK=>?_;go_simp;apply hK;clear hK K;go_wp2;go_ret;exact⟨by rw [HNO.out]; rfl,K1.out⟩
  ·have hl2:(pn:Int) > 70:=by omega
   have HNO:=hid (few_no2 (L:=L) (P:=P) (R:=R) (by rw [<- HPN.out]; exact h2))
   clear h1 h2
   as_aux_lemma=>
    go_upto_region 1 with fail
    refine wp_region_lit ?_;iterate 2 (refine wW λK hK=>?_;go_simp;apply hK;clear hK K)
    refine wLk 22 (.tmp 6) rfl (xb) (0) rfl (.slice lad ln lc) (C0.out) ?_
    simp only [Act.put,sA,sB,sC];iterate 5 (refine wW λK hK=>?_;go_simp;apply hK;clear hK K)
    refine wLk 23 (.tmp 12) rfl (xb) (1) rfl (.slice pad pn pc) (C1.out) ?_
    simp only [Act.put,sA,sB,sC];iterate 4 (refine wW λK hK=>?_;go_simp;apply hK;clear hK K)
    (iterate 4 (refine @wpList_skip _ _ _ _ _ _ _ ?_ ?_;kernel_rfl;simp only [Act.put,sA,sB,sC]));refine wW λK hK=>?_;go_simp;apply hK;clear hK K
    go_upto_region 2 with fail
    refine wp_region_lit ?_;refine wW λK hK=>?_;go_simp;apply hK;clear hK K;go_wp2;go_ret;exact⟨by rw [HNO.out]; rfl,K1.out⟩
 ·have hl1:(ln:Int) > 70:=by omega
  have HNO:=hid (few_no1 (L:=L) (P:=P) (R:=R) (by rw [<- HLN.out]; exact h1))
  clear h1
  as_aux_lemma=>
   go_upto_region 1 with fail
   refine wp_region_lit ?_;iterate 2 (refine wW λK hK=>?_;go_simp;apply hK;clear hK K)
   refine wLk 22 (.tmp 6) rfl (xb) (0) rfl (.slice lad ln lc) (C0.out) ?_
   simp only [Act.put,sA,sB,sC];iterate 3 (refine wW λK hK=>?_;go_simp;apply hK;clear hK K)
   (iterate 5 (refine @wpList_skip _ _ _ _ _ _ _ ?_ ?_;kernel_rfl;simp only [Act.put,sA,sB,sC]));iterate 2 (refine wW λK hK=>?_;go_simp;apply hK;clear hK K)
   (iterate 4 (refine @wpList_skip _ _ _ _ _ _ _ ?_ ?_;kernel_rfl;simp only [Act.put,sA,sB,sC]));refine wW λK hK=>?_;go_simp;apply hK;clear hK K
   go_upto_region 2 with fail
   refine wp_region_lit ?_;refine wW λK hK=>?_;go_simp;apply hK;clear hK K;go_wp2;go_ret;exact⟨by rw [HNO.out]; rfl,K1.out⟩
theorem same_longA (v1 v2:Value)(b1 b2:Nat)(L M:List Int)(w:World)(h1:Ints w b1 v1 L)(h2:Ints w b2 v2 M)(hL:L.length<=80000):Calls Tryz.prog 16 #[v1,v2] w λe w'=>e = .returned (.bool (L == M))/\Kp w w':=by
 obtain⟨g1,c1,hv1⟩:=h1.len;obtain⟨g2,c2,hv2⟩:=h2.len;have HC:=hid (λk (hk:k < L.length)=>h1.at hk)
 have MC:=hid (λk (hk:k < M.length)=>h2.at hk)
 subst hv1 hv2;clear h1 h2
 go_enter Tryz.func16,Tryz.ntmps16
 by_cases hlen:L.length = M.length
 ·have hd:((L.length:Int) != (M.length:Int)) = false:=by rw [bne_eq_false_iff_eq,hlen]
  have HLE:=hid hlen;have hL2:(L.length:Int)<=80000:=by omega
  clear hlen
  go_wp2_with fail
  go_loopw [5] (λi w9=>∃ k:Nat,k<=L.length/\i = .int .i64 (k:Int)/\Hid (L.take k = M.take k)/\Hid (Kp w w9)) (λi _=>L.length - (RowKit.intOf i).toNat)
  case atStart=>exact⟨0,by omega,rfl,hid (by simp),hid (Kept.refl _ _ _)⟩
  case round=>
   obtain⟨k,hk,rfl,hno,hK⟩:=hrel
   by_cases hlt:k < L.length
   ·have hltm:k < M.length:=by rw [<- HLE.out]; exact hlt
    obtain⟨gl,cl,hl1,hl2⟩:=HC.out k hlt;obtain⟨gm,cm,hm1,hm2⟩:=MC.out k hltm;obtain⟨rfl,rfl⟩:g1 = some ⟨gl,0,none⟩/\c1 = cl:=by simpa using hl1
    obtain⟨rfl,rfl⟩:g2 = some ⟨gm,0,none⟩/\c2 = cm:=by simpa using hm1
    have hln:(k:Int) < (L.length:Int):=by omega
    have hlm:(k:Int) < (M.length:Int):=by omega
    have hk0:¬ (k:Int) < 0:=by omega
    have cl':wr.cell? ⟨gl,k,none⟩ = some (.int .i64 L[k]):=(hK.out.cell (p:=⟨gl,k,none⟩) (World.block_lt_of_cell? _ _ hl2) (Nat.ne_of_lt (World.block_lt_of_cell? _ _ hl2))).trans hl2;have cm':wr.cell? ⟨gm,k,none⟩ = some (.int .i64 M[k]):=(hK.out.cell (p:=⟨gm,k,none⟩) (World.block_lt_of_cell? _ _ hm2) (Nat.ne_of_lt (World.block_lt_of_cell? _ _ hm2))).trans hm2
    have hmore:L[k] = M[k]->L.take (k + 1) = M.take (k + 1):=λe=>by
     rw [List.take_succ_eq_append_getElem hlt,List.take_succ_eq_append_getElem hltm,hno.out,e]
    have hfound:L[k]≠M[k]->(L == M) = false:=λe=>by
     rw [beq_eq_false_iff_ne];intro h;exact e (by subst h; rfl)
    generalize L[k] = X at cl' hmore hfound;generalize M[k] = Y at cm' hmore hfound;have Hmore:=hid hmore;have Hfound:=hid hfound;have HKK:=hid hK.out.drew;clear hmore hfound hl1 hl2 hm1 hm2
    go_upto_region 6 with fail
    go_region
    generalize hB:(X != Y) = B;have HB:=hid hB;clear hB
    cases B
    ·have he:X = Y:=by simpa using HB.out
     have HM:=hid (Hmore.out he);clear he;go_wp2
     go_roundw
     case rel=>exact⟨k + 1,by omega,by simp,HM,HKK⟩
     case measure=>simp [RowKit.intOf]; omega
    ·have he:X≠Y:=by simpa using HB.out
     have HM:=hid (Hfound.out he);clear he;go_wp2;go_ret;exact⟨by rw [HM.out]; rfl,HKK.out⟩
   ·have hkl:k = L.length:=by omega
    have hln:¬ (k:Int) < (L.length:Int):=by omega
    have hE:(L == M) = true:=by
     have h3:=hno.out;rw [hkl,List.take_of_length_le (Nat.le_refl _),List.take_of_length_le (by rw [<- HLE.out]; exact Nat.le_refl _)] at h3
     simp [h3]
    have HE:=hid hE;clear hE hkl;go_wp2;go_ret;exact⟨by rw [HE.out]; rfl,hK.out⟩
 ·have hd:((L.length:Int) != (M.length:Int)) = true:=by simp; omega
  have hE:(L == M) = false:=by
   rw [beq_eq_false_iff_ne];intro e;exact hlen (by rw [e])
  have HE:=hid hE;clear hE hlen
  go_wp2_with fail
  go_ret;exact⟨by rw [HE.out]; rfl,Kept.refl _ _ _⟩
theorem run_equalIn_ints {P:Program}(w:World)(d:Nat)(t e:TypeId)(n:Nat)(ht:P.underlying t = some (.array n e))(he:P.underlying e = some (.int .i64))(hsz:∀ w,(sizeOf e).run P w = .ok 1 w)(xs:List Int)(hx:xs.length = n):
  (Op.equalIn (d + 2) t (.agg (icells xs).toArray) (.agg (icells xs).toArray)).run P w = .ok true w:=by
 rw [Op.equalIn];simp only [Sem.run_bind,run_underlying ht,Result.andThen_ok,hsz,Std.Legacy.Range.forIn_eq_forIn_range',Std.Legacy.Range.size,Nat.sub_zero,Nat.add_sub_cancel,Nat.div_one];have hl:∀ i∈List.range' 0 n 1,i < n:=λi hi=>by simpa using (List.mem_range'_1.1 hi).2
 generalize List.range' 0 n 1 = l at hl |-
 induction l with
 | nil=>simp
 | cons i l ih=>
  have hi:i < n:=hl i (by simp)
  have px:(part e (icells xs).toArray (i * 1)).run P w = .ok (.int .i64 (xs.getD i 0)) w:=by
   simp [part,isAgg,icells,run_underlying he,List.getD,List.getElem?_eq_getElem (show i < xs.length by omega)]
  have pe:(Op.equalIn (d + 1) e (.int .i64 (xs.getD i 0)) (.int .i64 (xs.getD i 0))).run P w = .ok true w:=by
   rw [run_equalIn_int w d e .i64 .i64 _ _ he,beq_self_eq_true]
  simp only [List.forIn_cons,Sem.run_bind,px,pe,Result.andThen_ok,Bool.not_true,Bool.false_eq_true,if_false,Sem.run_pure];exact ih λj hj=>hl j (by simp [hj])
theorem timesGuard:Tryz.prog.eqGuardType Tryz.prog.depth 27 = false:=by kernel_rfl
theorem times_equalIn (w:World)(ts:List Int)(h:ts.length = 64):(Op.equalIn 10000 27 (.agg (icells ts).toArray) (.agg (icells ts).toArray)).run Tryz.prog w = .ok true w:=
 run_equalIn_ints w 9998 27 3 64 Tryz.underlying27 Tryz.underlying3 (λw=>by kernel_rfl) ts h
end Go.Proofs.YtinebhdilnndaaaGreatDoor
