/-
 The landed sorted: the vertices that are wanted.
-/
import Derived.Test.YtfbfdaeagpdaiaaDagIn
import Derived.Test.YtfbfdaeagpdaiaaDagNone
set_option maxRecDepth 100000
set_option maxHeartbeats 8000000
namespace Go.Proofs.Ytfbfdaeagpdaiaa
open Go.RowKit Go.Shelf Go.Lib
theorem grown15 {w w':World}(h:Kept w.heap.size w.heap.size w w'):w.grownBy w' none:=⟨h.os,h.tape,h.output,h.size,fun k hk _=>h.block k hk (Nat.ne_of_lt hk)⟩
theorem below15 {w w':World}(h:Kept w.heap.size w.heap.size w w'):Below w.heap.size w w':=h.below (Nat.le_refl _) (Nat.le_refl _)
theorem owns_lower15 {w:World}{base base':Nat}{e:TypeId}{size:Nat}{v:Value}{n:Nat}{xs:List Value}(h:w.ownsRow base e size v n xs)(hb:base'≤base):w.ownsRow base' e size v n xs:=by
 refine⟨h.1,h.2.imp (fun x=>x) ?_⟩
 rintro ⟨g,cap,cur,h1,h2,h3⟩;exact⟨g,cap,cur,h1,Nat.le_trans hb h2,h3⟩
theorem Vb.own15 {W W':World}{B:Nat}{v:Vx}{row:Option Nat}(h:Vb W B v)(hg:W.grownBy W' row)(hr:∀ r,row = some r→∃ o:Obj,W.heap[r]? = some o∧o.isCells = false):Vb W' B v:=
 (hg.block B h.lt (fun e=>by obtain⟨o,ho,hc⟩:=hr B e.symm; rw [show W.heap[B]? = _ from h] at ho; cases ho; cases hc)).trans h
theorem want_all15 (v:Vx)(w:World):Calls Try.prog 19 #[v.val] w fun e w'=>e = .returned (.bool true)∧Kept w.heap.size w.heap.size w w':=by
 have HK:=hid (fun cs:Array Value=>kA w (.cells cs 36))
 unfold Vx.val;generalize v.cells.toArray = CC
 go_enter Try.func19,Try.ntmps19
 go_wp2;go_ret;exact⟨rfl,HK.out _⟩
theorem want_low15 (v:Vx)(hv:v.Ok)(B:Nat)(fl:Int)(w:World)(hB:Boxed w B 3 (.int .i64 fl)):Calls Try.prog 16 #[v.val,.pointer (some ⟨B,0,none⟩)] w fun e w'=>e = .returned (.bool (decide (v.dep < fl)))∧Kept w.heap.size w.heap.size w w':=by
 have HK:=hid (fun cs:Array Value=>kA w (.cells cs 36))
 have c1:=(Vb.new w v).dep hv;have c2:=(hB.alloc (.cells v.cells.toArray 36)).cell
 obtain⟨vd,hvd⟩:∃ x,x = v.dep:=⟨_,rfl⟩;rw [← hvd] at c1 ⊢;unfold Vx.val;generalize v.cells.toArray = CC at c1 c2 ⊢;clear hB hv hvd
 go_enter Try.func16,Try.ntmps16
 go_wp2;go_ret;exact⟨rfl,HK.out _⟩
def SortedP (p:Vx→Bool)(L:List Vx)(w:World)(e:Ending)(w':World):Prop:=∃ v R,e = .returned v∧Vs w' v R∧R.Perm (L.filter p)∧(∀ g,v.ownBlock = some g→w.heap.size≤g)∧Kept w.heap.size w.heap.size w w'
def wf15 (p:Vx→Bool)(pre:List VxO):List Vx:=(pre.map (·.1)).filter p
theorem wf15_yes {p:Vx→Bool}{pre:List VxO}{x:VxO}(h:p x.1 = true):wf15 p (pre ++ [x]) = wf15 p pre ++ [x.1]:=by simp [wf15,h]
theorem wf15_no {p:Vx→Bool}{pre:List VxO}{x:VxO}(h:p x.1 = false):wf15 p (pre ++ [x]) = wf15 p pre:=by simp [wf15,h]
theorem wf15_ok (p:Vx→Bool)(pre:List VxO):∀ v∈wf15 p pre,v.Ok:=by
 intro v hv;obtain⟨x,_,rfl⟩:=List.mem_map.1 (List.mem_filter.1 hv).1;exact x.2
theorem wf15_len (p:Vx→Bool)(pre:List VxO):(wf15 p pre).length≤pre.length:=by
 refine Nat.le_trans (List.length_filter_le _ _) ?_;rw [List.length_map];exact Nat.le_refl _
attribute [local go_sem] Oper.semAt_some
theorem sorted_all_in {sb n:Nat}{F:Nat→Prop}{keep:Int}{L:List Vx}{h:Option Vx}{P:List (List UInt8)}(w:World)(ds:Dst w sb F keep n L h P):
  CallsIn Fence.wide 3 Try.prog 15 #[.pointer (some ⟨sb,0,none⟩),.func (.func 19) #[] #[]] w (SortedP (fun _:Vx=>true) L w):=by
 have HP:Hid (∀ (v:Vx),v.Ok→∀ W,Below w.heap.size w W→Calls Try.prog 19 (#[v.val] ++ #[]) W fun e W'=>e = .returned (.bool ((fun _:Vx=>true) v))∧Kept W.heap.size W.heap.size W W'):=hid (fun v hv W hW=>(want_all15 v W))
 have hlw:(#[]:Array Value) = #[]:=rfl;generalize hpp:(fun _:Vx=>true) = p at HP ⊢
 obtain⟨vb,bb,hd,d⟩:=ds;have hnd:=d.st.nodup;have hok:=fun v hv=>(d.st.ok v hv).1
 have hlen:L.length≤100000:=by
  have:=d.nn;obtain⟨D,h1,h2⟩:=d.vp;have:=h1.size_le;rw [h2.size] at this
  omega
 obtain⟨fv,hfv⟩:∃ x,x = Value.func (.func 19) #[] #[]:=⟨_,rfl⟩
 have HFV:=hid hfv
 have hc1:((w.alloc (.cells #[fv] 53)).alloc (.cells #[.slice none 0 0] 33)).cell? ⟨sb,1,none⟩ = some (.map (some vb)):=by
  rw [World.cell?_of_block (a:=⟨sb,1,none⟩) (w:=w) ((Below.heap_alloc _ _ _ (by have:=d.lt sb d.fs; simp; omega)).trans (Below.heap_alloc _ _ _ (d.lt sb d.fs)))]
  exact d.at_vert
 have hvp:Vp (((w.alloc (.cells #[fv] 53)).alloc (.cells #[.slice none 0 0] 33)).alloc (.cells #[.map (some vb)] 46)) vb n L:=d.vp.same (by
  have:=d.vp.lt
  rw [Below.heap_alloc _ _ _ (by simp; omega),Below.heap_alloc _ _ _ (by simp; omega),Below.heap_alloc _ _ _ (by omega)])
 have HVL:=hid (fun mb x=>(callsIn_wide (n:=2)).2 (values15 mb x))
 rw [← hfv];obtain⟨i0,z0,hi,hz0,hz3,hz1,hz2⟩:=vx_info15;have hcw:=d.at_vert;have hltw:=d.lt sb d.fs;clear hc1;clear hfv d;refine callsIn_of_wp_marks Try.func15 rfl trivial ?_ rfl
 simp only [Try.ntmps15,List.size_toArray,List.length_cons,List.length_nil,Nat.reduceAdd,Nat.reduceSub,Array.replicate_succ,Array.replicate_zero,List.push_toArray,List.append_toArray,List.nil_append,List.cons_append]
 gi_wp2_with (first | (refine⟨trivial,?_⟩; gi_at_call 22; refine(HVL.out _ _).mono ?_; rintro e w' ⟨rfl,rfl⟩) | gi_in)
 have bF:=Boxed.new w 53 fv
 have bL:=Boxed.new (w.alloc (.cells #[fv] 53)) 33 (.slice none 0 0)
 rw [World.size_alloc] at bL;have bM:=Boxed.new ((w.alloc (.cells #[fv] 53)).alloc (.cells #[.slice none 0 0] 33)) 46 (.map (some vb))
 rw [World.size_alloc,World.size_alloc] at bM;have hB0:Below w.heap.size w (((w.alloc (.cells #[fv] 53)).alloc (.cells #[.slice none 0 0] 33)).alloc (.cells #[.map (some vb)] 46)):=(((Below.refl _ w).alloc (Nat.le_refl _) _).alloc (by simp) _).alloc (by simp; omega) _
 refine wpIn_rangeFunc_ownH rfl (by omega) (gf:=28) (lb:=#[.pointer (some ⟨w.heap.size + 1 + 1,0,none⟩)]) rfl trivial (enters_of Try.func28 (by kernel_rfl) rfl)
  (values_stops15 2 (by omega) (w.heap.size + 1 + 1) vb n L hnd hok _ (by simp) bM.cell hvp) walksK_t walksK_b (Below.refl _ _) (fun _=>rfl)
  (fun pre W=>(((∃ v,Boxed W (w.heap.size + 1) 33 v∧W.ownsRow (w.heap.size + 3) 36 66 v (wf15 p pre).length (vflat (wf15 p pre))∧True)∧Boxed W w.heap.size 53 fv)∧w.heap.size + 3≤W.heap.size)∧Below w.heap.size w W)
  (fun _ _ _=>False)
  (OwnFrom.and (OwnFrom.and (OwnFrom.and (_root_.Go.Own.from (holdsRow_own (w.heap.size + 3) (w.heap.size + 1) 33 36 66 (fun pre:List VxO=>(wf15 p pre).length) (fun pre=>vflat (wf15 p pre)) (fun _ _=>True)) _) (_root_.Go.Own.from (boxed_own w.heap.size 53 (fun _:List VxO=>fv)) _)) (fun s A B row hs hg hr=>Nat.le_trans hs hg.size)) (ownFrom_below (Nat.le_refl _) (by simp; omega)))
  (fun _ _ _ _ _ hs _ _=>hs)
  ⟨⟨⟨⟨_,bL.alloc _,World.ownsRow_nil _ _ _ _,trivial⟩,(bF.alloc _).alloc _⟩,by simp⟩,hB0⟩
  (fun x a' W=>∃ Bx,w.heap.size + 3≤Bx∧Vb W Bx x.1∧a' = { tmps:=#[.pointer (some ⟨sb,0,none⟩),fv,undef,.pointer (some ⟨w.heap.size,0,none⟩),.slice none 0 0,.pointer (some ⟨w.heap.size + 1,0,none⟩),.pointer (some ⟨Bx,0,none⟩),.pointer (some ⟨sb,0,none⟩),.bool false,.pointer (some ⟨sb,0,none⟩),.pointer (some ⟨sb,0,none⟩),.pointer (some ⟨sb,1,none⟩),.map (some vb),.func (.func 28) #[] #[.pointer (some ⟨w.heap.size + 1 + 1,0,none⟩)],.agg x.1.cells.toArray,undef,undef,undef,undef,undef,undef,undef,undef,undef,undef],defers:=[] })
  (fun x a' s A B row hs hg hr=>by obtain⟨Bx,h1,h2,h3⟩:=hs; exact⟨Bx,h1,h2.own15 hg (fun r e=>(hr r e).2),h3⟩)
  ?assign ?body ?done ?stop
 case assign=>
  rintro l pre x W K ⟨⟨⟨⟨v,hv,hrow,_⟩,hf⟩,hsz⟩,hB⟩ hK;have hst:=store_vx15 W x.1 x.2;have hal:=alloc_vx15 W
  have hfin:K { tmps:=#[.pointer (some ⟨sb,0,none⟩),fv,undef,.pointer (some ⟨w.heap.size,0,none⟩),.slice none 0 0,.pointer (some ⟨w.heap.size + 1,0,none⟩),.pointer (some ⟨W.heap.size,0,none⟩),.pointer (some ⟨sb,0,none⟩),.bool false,.pointer (some ⟨sb,0,none⟩),.pointer (some ⟨sb,0,none⟩),.pointer (some ⟨sb,1,none⟩),.map (some vb),.func (.func 28) #[] #[.pointer (some ⟨w.heap.size + 1 + 1,0,none⟩)],.agg x.1.cells.toArray,undef,undef,undef,undef,undef,undef,undef,undef,undef,undef],defers:=[] } (W.alloc (.cells x.1.cells.toArray 36)):=
   hK _ _ ((KeepsOthers.alloc _ _).from _) (KeepsWalks.alloc _ _) ⟨⟨⟨⟨v,hv.alloc _,hrow.alloc _,trivial⟩,hf.alloc _⟩,by simp; omega⟩,hB.trans ((Below.refl w.heap.size W).alloc hB.size _)⟩ ⟨W.heap.size,by omega,Vb.new W x.1,rfl⟩
  unfold Vx.val;generalize x.1.cells.toArray = CC at hst hfin ⊢;generalize Vx.zero.cells.toArray = ZC at hst hal;clear hK hv hrow hf hB
  gi_wp2_with (first
   | (refine inL_alloc rfl 36 rfl hal ?_; simp [Act.put])
   | (refine inL_store rfl 36 _ _ rfl rfl W.heap.size 0 rfl (.agg CC) rfl hst ?_)
   | gi_in)
  exact hfin
 case body=>
  rintro l pre x a' W hl ⟨r,hr⟩ ⟨⟨⟨⟨v,hv,hrow,_⟩,hf⟩,hsz⟩,hB⟩ ⟨Bx,hBx,bX,rfl⟩ hlt;have hc0:=hf.cell;have hla:=bX.all x.2;have hcal:=HP.out x.1 x.2 W hB;have hpl:=wf15_len p pre;have hpw:=hid (show ∀ b,p x.1 = b→(b = true→wf15 p (pre ++ [x]) = wf15 p pre ++ [x.1])∧(b = false→wf15 p (pre ++ [x]) = wf15 p pre) from fun b hb=>⟨fun e=>wf15_yes (hb.trans e),fun e=>wf15_no (hb.trans e)⟩)
  have HXC:=hid (Vx.cells_length x.2);have HX1:=hid (Vx.cells_one x.1);have HXF:=hid (show vflat [x.1] = x.1.cells by simp [vflat])
  obtain⟨pb,hpb⟩:∃ b,b = p x.1:=⟨_,rfl⟩;rw [← hpb] at hcal;rw [HFV.out] at hc0;unfold Vx.val at hla hcal;obtain⟨XC,hXC⟩:∃ c,c = x.1.cells:=⟨_,rfl⟩;rw [← hXC] at hla hcal HXC HX1 HXF ⊢;have bXc:=hid (show W.heap[Bx]? = some (.cells XC.toArray 36 (0,0)) by rw [hXC]; exact bX)
  have HPB:=hid hpb;clear hpb hXC bX
  cases pb with
  | true=>
   gi_wp2_with (first
    | (refine inL_load rfl 36 _ rfl Bx 0 rfl (.agg XC.toArray) hla ?_)
    | (refine⟨trivial,?_⟩; gi_at_call 19; refine(CallsIn.inRound l ((callsIn_wide).2 hcal)).mono ?_; rintro e W2 ⟨rfl,k2⟩; have hv2:=(hv.kept (grown15 k2) (by simp)).cell; have hla2:=run_loadVar_row W2 Bx 36 36 _ (0,0) _ (row_kept bXc.out k2) Try.underlying36 rfl (by rw [vxInfo15,List.size_toArray,HXC.out]); have hrow2:=hrow.kept (row:=none) (grown15 k2) (by cases v.ownBlock <;> simp))
    | (refine inL_load rfl 36 _ rfl Bx 0 rfl (.agg XC.toArray) hla2 ?_)
    | (refine inL_build1 rfl _ 33 rfl XC.toArray rfl (run_build_one W2 _ 36 i0 z0 Try.underlying33 hi hz0 XC.toArray (by rw [hz1,List.size_toArray,HXC.out]) (by omega) (by omega)) ?_)
    | (gi_at_builtin; refine wpListIn_append_own _ rfl _ _ 33 rfl (w.heap.size + 3) 36 i0 z0 66 80 Try.underlying33 hi hz0 hz1 hz2 hz3 (by decide) _ _ _ rfl (hrow2.alloc _) ⟨W2.heap.size,0,none⟩ 1 1 XC rfl (by rw [HXC.out]) (fun j u hu=>by rw [Addr.add_lit,Nat.zero_add]; exact cells_get (heap_new W2 _) hu) HX1.out (by have:(wf15 p pre).length + 1≤100001:=(by omega); exact Nat.le_trans this (by decide)) (by omega) (by have:=k2.size; simp; omega) ?_; intro v' w1 hown' hgrow _; obtain⟨g',cap',rfl⟩:=ownsRow_succ hown'; obtain⟨hv1,hv3,hr3,hk3,hb3⟩:=(hv.kept (grown15 k2) (by simp)).appended (show(33 : Nat)≠36 by decide) (owns_lower15 hrow2 (Nat.le_add_right _ 3)) (Nat.le_trans hB.size k2.size) (Nat.le_add_right _ 1) (owns_lower15 hown' (Nat.le_add_right _ 3)) hgrow; have hc1:=hv1.cell; have hf1:=hv1.frozen)
    | gi_in)
   have hB2:Below w.heap.size w W2:=hB.trans ((below15 k2).mono hB.size);have h3:=hown'.kept (grownBy_setCell' w1 (w.heap.size + 1) (.slice (some ⟨g',0,none⟩) ((wf15 p pre).length + 1) cap')) (.inr (fun e=>by have:=(hown'.lt _ e).1; omega))
   have h4:(w1.setCell ⟨w.heap.size + 1,0,none⟩ (.slice (some ⟨g',0,none⟩) ((wf15 p pre).length + 1) cap')).ownsRow (w.heap.size + 3) 36 66 (.slice (some ⟨g',0,none⟩) ((wf15 p pre).length + 1) cap') (wf15 p (pre ++ [x])).length (vflat (wf15 p (pre ++ [x]))):=by
    rw [(hpw.out true HPB.out.symm).1 rfl,vflat_append,HXF.out,List.length_append,List.length_singleton];exact h3
   have hKO:=(KeepsOthers.of_grownBy (grown15 k2) (fun j o e=>by cases e)).trans hk3
   have hBF:=hB2.trans hb3;clear h3
   first
    | refine⟨hKO.from _,hKO.walks,⟨⟨⟨_,hv3,h4,trivial⟩,?_⟩,?_⟩,hBF⟩
    | refine⟨hKO.from _,hKO.walks,⟨⟨⟨_,hv3,h4⟩,?_⟩,?_⟩,hBF⟩
   ·exact(((hf.kept (grown15 k2) (by simp)).alloc _).kept hgrow (fun e=>by have:=(hrow2.lt _ e.symm).1; omega)).kept (grownBy_setCell' _ (w.heap.size + 1) _) (by simp)
   ·have:=hgrow.size
    have:=k2.size;simp at *
    omega
  | false=>
   gi_wp2_with (first
    | (refine inL_load rfl 36 _ rfl Bx 0 rfl (.agg XC.toArray) hla ?_)
    | (refine⟨trivial,?_⟩; gi_at_call 19; refine(CallsIn.inRound l ((callsIn_wide).2 hcal)).mono ?_; rintro e W2 ⟨rfl,k2⟩)
    | gi_in)
   have hB2:Below w.heap.size w W2:=hB.trans ((below15 k2).mono hB.size)
   have h4:W2.ownsRow (w.heap.size + 3) 36 66 v (wf15 p (pre ++ [x])).length (vflat (wf15 p (pre ++ [x]))):=by
    rw [(hpw.out false HPB.out.symm).2 rfl];exact hrow.kept (row:=none) (grown15 k2) (by cases v.ownBlock <;> simp)
   have hKO:KeepsOthers W W2:=KeepsOthers.of_grownBy (grown15 k2) (fun j o e=>by cases e)
   first
    | exact⟨hKO.from _,hKO.walks,⟨⟨⟨v,hv.kept (grown15 k2) (by simp),h4,trivial⟩,hf.kept (grown15 k2) (by simp)⟩,Nat.le_trans hsz k2.size⟩,hB2⟩
    | exact⟨hKO.from _,hKO.walks,⟨⟨⟨v,hv.kept (grown15 k2) (by simp),h4⟩,hf.kept (grown15 k2) (by simp)⟩,Nat.le_trans hsz k2.size⟩,hB2⟩
 case done=>
  rintro D ys W hD hperm ⟨⟨⟨⟨v,hv,hrow,_⟩,hf⟩,hsz⟩,hB⟩ hK;have hPF:(wf15 p ys).Perm (L.filter p):=hperm.filter p;have hc:=hv.cell;have hOV:OwnV W (w.heap.size + 3) v (wf15 p ys):=⟨wf15_ok p ys,hrow⟩;have hlw:=hrow.lt
  have hwl:(wf15 p ys).length < 1073741824:=by
   have:=hPF.length_eq;have:=List.length_filter_le p L
   omega
  rcases hrow.2 with ⟨rfl,h0⟩ | ⟨g,cap,cur,rfl,hb,hh,_⟩
  ·have HN:=hid (fun x=>(callsIn_wide (n:=2)).2 (sort_none15 none 0 (.func (.func 24) #[] #[]) x))
   gi_wp2_with (refine⟨trivial,?_⟩; gi_at_call 23; refine(HN.out _).mono ?_; rintro e w' ⟨rfl,hw'⟩; subst w')
   refine⟨by simp,.inl ⟨_,_,rfl,run_takeDeferred hK,?_⟩⟩;refine⟨_,results_tmp rfl _ _ _,.slice none 0 0,[],rfl,Vs.nil _,?_,fun g e=>by simp [Value.ownBlock] at e,Kept.ofBelow (hB.trans (belowK_b (w:=w) (Nat.le_refl _) W D _ _ (by simp at hD; omega) hK rfl rfl)) (Nat.le_refl _)⟩
   rw [List.length_eq_zero_iff] at h0;rw [← h0];exact hPF
  ·obtain⟨wl,hwle⟩:∃ x,x = (wf15 p ys).length:=⟨_,rfl⟩
   have hso:=sort15 (wf15 p ys) (w.heap.size + 3) g cap W hOV hwl;rw [← hwle] at hso;have HN:=hid ((callsIn_wide (n:=2)).2 hso)
   have hgD:D≠g:=by
    rintro rfl;rw [hh] at hK
    cases hK
   have hgl:=(hlw g rfl).1;have HHG:=hid (show w.heap.size + 1≠g by omega)
   have HRF:=hid hv.lt;rw [← hwle] at hc;clear hso hwle hwl hOV hlw hh hv hf hb
   gi_wp2_with (refine⟨trivial,?_⟩; gi_at_call 23; refine(HN.out).mono ?_; rintro e w2 ⟨rfl,R,hR,hvs,k2⟩; have hc2:=(k2.cell (p:=⟨w.heap.size + 1,0,none⟩) HRF.out HHG.out).trans hc)
   have hK2:w2.heap[D]? = some (.deferred (some [])):=(k2.block D (lt_of_block hK) hgD).trans hK;refine⟨by simp,.inl ⟨_,_,rfl,run_takeDeferred hK2,?_⟩⟩;refine⟨_,results_tmp rfl _ _ _,_,R,rfl,?_,hR.trans hPF,fun g2 e=>by simp [Value.ownBlock] at e; omega,?_⟩
   ·obtain⟨h1,ad,g3,c3,e3,h2⟩:=hvs
    refine⟨h1,ad,g3,c3,e3,fun i hi=>?_⟩
    obtain⟨a1,a2,a3⟩:=h2 i hi;injection e3 with e4 _ _
    rw [a1] at e4;injection e4 with e4
    injection e4 with e4 _ _
    refine⟨a1,by simpa using a2,fun j u hu=>?_⟩
    rw [World.cell?_of_block (a:=⟨g3,i * 66 + j,none⟩) (w:=w2) (World.putObj_heap_other (by rw [← e4]; exact fun e=>hgD e.symm))]
    exact a3 j u hu
   ·have hB2:Below w.heap.size w w2:=hB.trans ⟨k2.os,k2.tape,k2.output,k2.size,fun k hk=>k2.block k (Nat.lt_of_lt_of_le hk hB.size) (by omega)⟩
    exact Kept.ofBelow (hB2.trans (belowK_b (w:=w) (Nat.le_refl _) w2 D _ _ (by simp at hD; omega) hK2 rfl rfl)) (Nat.le_refl _)
 case stop=>
  rintro D c pre W _ _ h _;exact h.elim
theorem sorted_low_in {sb n:Nat}{F:Nat→Prop}{keep:Int}{L:List Vx}{h:Option Vx}{P:List (List UInt8)}(w:World)(ds:Dst w sb F keep n L h P)(B:Nat)(fl:Int)(hBf:Boxed w B 3 (.int .i64 fl)):
  CallsIn Fence.wide 3 Try.prog 15 #[.pointer (some ⟨sb,0,none⟩),.func (.func 16) #[] #[.pointer (some ⟨B,0,none⟩)]] w (SortedP (fun v:Vx=>decide (v.dep < fl)) L w):=by
 have HP:Hid (∀ (v:Vx),v.Ok→∀ W,Below w.heap.size w W→Calls Try.prog 16 (#[v.val] ++ #[.pointer (some ⟨B,0,none⟩)]) W fun e W'=>e = .returned (.bool ((fun v:Vx=>decide (v.dep < fl)) v))∧Kept W.heap.size W.heap.size W W'):=hid (fun v hv W hW=>(want_low15 v hv B fl W ((hW.block B hBf.lt).trans hBf)))
 have hlw:(#[]:Array Value) = #[]:=rfl;generalize hpp:(fun v:Vx=>decide (v.dep < fl)) = p at HP ⊢
 obtain⟨vb,bb,hd,d⟩:=ds;have hnd:=d.st.nodup;have hok:=fun v hv=>(d.st.ok v hv).1
 have hlen:L.length≤100000:=by
  have:=d.nn;obtain⟨D,h1,h2⟩:=d.vp;have:=h1.size_le;rw [h2.size] at this
  omega
 obtain⟨fv,hfv⟩:∃ x,x = Value.func (.func 16) #[] #[.pointer (some ⟨B,0,none⟩)]:=⟨_,rfl⟩
 have HFV:=hid hfv
 have hc1:((w.alloc (.cells #[fv] 53)).alloc (.cells #[.slice none 0 0] 33)).cell? ⟨sb,1,none⟩ = some (.map (some vb)):=by
  rw [World.cell?_of_block (a:=⟨sb,1,none⟩) (w:=w) ((Below.heap_alloc _ _ _ (by have:=d.lt sb d.fs; simp; omega)).trans (Below.heap_alloc _ _ _ (d.lt sb d.fs)))]
  exact d.at_vert
 have hvp:Vp (((w.alloc (.cells #[fv] 53)).alloc (.cells #[.slice none 0 0] 33)).alloc (.cells #[.map (some vb)] 46)) vb n L:=d.vp.same (by
  have:=d.vp.lt
  rw [Below.heap_alloc _ _ _ (by simp; omega),Below.heap_alloc _ _ _ (by simp; omega),Below.heap_alloc _ _ _ (by omega)])
 have HVL:=hid (fun mb x=>(callsIn_wide (n:=2)).2 (values15 mb x))
 rw [← hfv];obtain⟨i0,z0,hi,hz0,hz3,hz1,hz2⟩:=vx_info15;have hcw:=d.at_vert;have hltw:=d.lt sb d.fs;clear hc1;clear hfv d;refine callsIn_of_wp_marks Try.func15 rfl trivial ?_ rfl
 simp only [Try.ntmps15,List.size_toArray,List.length_cons,List.length_nil,Nat.reduceAdd,Nat.reduceSub,Array.replicate_succ,Array.replicate_zero,List.push_toArray,List.append_toArray,List.nil_append,List.cons_append]
 gi_wp2_with (first | (refine⟨trivial,?_⟩; gi_at_call 22; refine(HVL.out _ _).mono ?_; rintro e w' ⟨rfl,rfl⟩) | gi_in)
 have bF:=Boxed.new w 53 fv
 have bL:=Boxed.new (w.alloc (.cells #[fv] 53)) 33 (.slice none 0 0)
 rw [World.size_alloc] at bL;have bM:=Boxed.new ((w.alloc (.cells #[fv] 53)).alloc (.cells #[.slice none 0 0] 33)) 46 (.map (some vb))
 rw [World.size_alloc,World.size_alloc] at bM;have hB0:Below w.heap.size w (((w.alloc (.cells #[fv] 53)).alloc (.cells #[.slice none 0 0] 33)).alloc (.cells #[.map (some vb)] 46)):=(((Below.refl _ w).alloc (Nat.le_refl _) _).alloc (by simp) _).alloc (by simp; omega) _
 refine wpIn_rangeFunc_ownH rfl (by omega) (gf:=28) (lb:=#[.pointer (some ⟨w.heap.size + 1 + 1,0,none⟩)]) rfl trivial (enters_of Try.func28 (by kernel_rfl) rfl)
  (values_stops15 2 (by omega) (w.heap.size + 1 + 1) vb n L hnd hok _ (by simp) bM.cell hvp) walksK_t walksK_b (Below.refl _ _) (fun _=>rfl)
  (fun pre W=>(((∃ v,Boxed W (w.heap.size + 1) 33 v∧W.ownsRow (w.heap.size + 3) 36 66 v (wf15 p pre).length (vflat (wf15 p pre))∧True)∧Boxed W w.heap.size 53 fv)∧w.heap.size + 3≤W.heap.size)∧Below w.heap.size w W)
  (fun _ _ _=>False)
  (OwnFrom.and (OwnFrom.and (OwnFrom.and (_root_.Go.Own.from (holdsRow_own (w.heap.size + 3) (w.heap.size + 1) 33 36 66 (fun pre:List VxO=>(wf15 p pre).length) (fun pre=>vflat (wf15 p pre)) (fun _ _=>True)) _) (_root_.Go.Own.from (boxed_own w.heap.size 53 (fun _:List VxO=>fv)) _)) (fun s A B row hs hg hr=>Nat.le_trans hs hg.size)) (ownFrom_below (Nat.le_refl _) (by simp; omega)))
  (fun _ _ _ _ _ hs _ _=>hs)
  ⟨⟨⟨⟨_,bL.alloc _,World.ownsRow_nil _ _ _ _,trivial⟩,(bF.alloc _).alloc _⟩,by simp⟩,hB0⟩
  (fun x a' W=>∃ Bx,w.heap.size + 3≤Bx∧Vb W Bx x.1∧a' = { tmps:=#[.pointer (some ⟨sb,0,none⟩),fv,undef,.pointer (some ⟨w.heap.size,0,none⟩),.slice none 0 0,.pointer (some ⟨w.heap.size + 1,0,none⟩),.pointer (some ⟨Bx,0,none⟩),.pointer (some ⟨sb,0,none⟩),.bool false,.pointer (some ⟨sb,0,none⟩),.pointer (some ⟨sb,0,none⟩),.pointer (some ⟨sb,1,none⟩),.map (some vb),.func (.func 28) #[] #[.pointer (some ⟨w.heap.size + 1 + 1,0,none⟩)],.agg x.1.cells.toArray,undef,undef,undef,undef,undef,undef,undef,undef,undef,undef],defers:=[] })
  (fun x a' s A B row hs hg hr=>by obtain⟨Bx,h1,h2,h3⟩:=hs; exact⟨Bx,h1,h2.own15 hg (fun r e=>(hr r e).2),h3⟩)
  ?assign ?body ?done ?stop
 case assign=>
  rintro l pre x W K ⟨⟨⟨⟨v,hv,hrow,_⟩,hf⟩,hsz⟩,hB⟩ hK;have hst:=store_vx15 W x.1 x.2;have hal:=alloc_vx15 W
  have hfin:K { tmps:=#[.pointer (some ⟨sb,0,none⟩),fv,undef,.pointer (some ⟨w.heap.size,0,none⟩),.slice none 0 0,.pointer (some ⟨w.heap.size + 1,0,none⟩),.pointer (some ⟨W.heap.size,0,none⟩),.pointer (some ⟨sb,0,none⟩),.bool false,.pointer (some ⟨sb,0,none⟩),.pointer (some ⟨sb,0,none⟩),.pointer (some ⟨sb,1,none⟩),.map (some vb),.func (.func 28) #[] #[.pointer (some ⟨w.heap.size + 1 + 1,0,none⟩)],.agg x.1.cells.toArray,undef,undef,undef,undef,undef,undef,undef,undef,undef,undef],defers:=[] } (W.alloc (.cells x.1.cells.toArray 36)):=
   hK _ _ ((KeepsOthers.alloc _ _).from _) (KeepsWalks.alloc _ _) ⟨⟨⟨⟨v,hv.alloc _,hrow.alloc _,trivial⟩,hf.alloc _⟩,by simp; omega⟩,hB.trans ((Below.refl w.heap.size W).alloc hB.size _)⟩ ⟨W.heap.size,by omega,Vb.new W x.1,rfl⟩
  unfold Vx.val;generalize x.1.cells.toArray = CC at hst hfin ⊢;generalize Vx.zero.cells.toArray = ZC at hst hal;clear hK hv hrow hf hB
  gi_wp2_with (first
   | (refine inL_alloc rfl 36 rfl hal ?_; simp [Act.put])
   | (refine inL_store rfl 36 _ _ rfl rfl W.heap.size 0 rfl (.agg CC) rfl hst ?_)
   | gi_in)
  exact hfin
 case body=>
  rintro l pre x a' W hl ⟨r,hr⟩ ⟨⟨⟨⟨v,hv,hrow,_⟩,hf⟩,hsz⟩,hB⟩ ⟨Bx,hBx,bX,rfl⟩ hlt;have hc0:=hf.cell;have hla:=bX.all x.2;have hcal:=HP.out x.1 x.2 W hB;have hpl:=wf15_len p pre;have hpw:=hid (show ∀ b,p x.1 = b→(b = true→wf15 p (pre ++ [x]) = wf15 p pre ++ [x.1])∧(b = false→wf15 p (pre ++ [x]) = wf15 p pre) from fun b hb=>⟨fun e=>wf15_yes (hb.trans e),fun e=>wf15_no (hb.trans e)⟩)
  have HXC:=hid (Vx.cells_length x.2);have HX1:=hid (Vx.cells_one x.1);have HXF:=hid (show vflat [x.1] = x.1.cells by simp [vflat])
  obtain⟨pb,hpb⟩:∃ b,b = p x.1:=⟨_,rfl⟩;rw [← hpb] at hcal;rw [HFV.out] at hc0;unfold Vx.val at hla hcal;obtain⟨XC,hXC⟩:∃ c,c = x.1.cells:=⟨_,rfl⟩;rw [← hXC] at hla hcal HXC HX1 HXF ⊢;have bXc:=hid (show W.heap[Bx]? = some (.cells XC.toArray 36 (0,0)) by rw [hXC]; exact bX)
  have HPB:=hid hpb;clear hpb hXC bX
  cases pb with
  | true=>
   gi_wp2_with (first
    | (refine inL_load rfl 36 _ rfl Bx 0 rfl (.agg XC.toArray) hla ?_)
    | (refine⟨trivial,?_⟩; gi_at_call 16; refine(CallsIn.inRound l ((callsIn_wide).2 hcal)).mono ?_; rintro e W2 ⟨rfl,k2⟩; have hv2:=(hv.kept (grown15 k2) (by simp)).cell; have hla2:=run_loadVar_row W2 Bx 36 36 _ (0,0) _ (row_kept bXc.out k2) Try.underlying36 rfl (by rw [vxInfo15,List.size_toArray,HXC.out]); have hrow2:=hrow.kept (row:=none) (grown15 k2) (by cases v.ownBlock <;> simp))
    | (refine inL_load rfl 36 _ rfl Bx 0 rfl (.agg XC.toArray) hla2 ?_)
    | (refine inL_build1 rfl _ 33 rfl XC.toArray rfl (run_build_one W2 _ 36 i0 z0 Try.underlying33 hi hz0 XC.toArray (by rw [hz1,List.size_toArray,HXC.out]) (by omega) (by omega)) ?_)
    | (gi_at_builtin; refine wpListIn_append_own _ rfl _ _ 33 rfl (w.heap.size + 3) 36 i0 z0 66 80 Try.underlying33 hi hz0 hz1 hz2 hz3 (by decide) _ _ _ rfl (hrow2.alloc _) ⟨W2.heap.size,0,none⟩ 1 1 XC rfl (by rw [HXC.out]) (fun j u hu=>by rw [Addr.add_lit,Nat.zero_add]; exact cells_get (heap_new W2 _) hu) HX1.out (by have:(wf15 p pre).length + 1≤100001:=(by omega); exact Nat.le_trans this (by decide)) (by omega) (by have:=k2.size; simp; omega) ?_; intro v' w1 hown' hgrow _; obtain⟨g',cap',rfl⟩:=ownsRow_succ hown'; obtain⟨hv1,hv3,hr3,hk3,hb3⟩:=(hv.kept (grown15 k2) (by simp)).appended (show(33 : Nat)≠36 by decide) (owns_lower15 hrow2 (Nat.le_add_right _ 3)) (Nat.le_trans hB.size k2.size) (Nat.le_add_right _ 1) (owns_lower15 hown' (Nat.le_add_right _ 3)) hgrow; have hc1:=hv1.cell; have hf1:=hv1.frozen)
    | gi_in)
   have hB2:Below w.heap.size w W2:=hB.trans ((below15 k2).mono hB.size);have h3:=hown'.kept (grownBy_setCell' w1 (w.heap.size + 1) (.slice (some ⟨g',0,none⟩) ((wf15 p pre).length + 1) cap')) (.inr (fun e=>by have:=(hown'.lt _ e).1; omega))
   have h4:(w1.setCell ⟨w.heap.size + 1,0,none⟩ (.slice (some ⟨g',0,none⟩) ((wf15 p pre).length + 1) cap')).ownsRow (w.heap.size + 3) 36 66 (.slice (some ⟨g',0,none⟩) ((wf15 p pre).length + 1) cap') (wf15 p (pre ++ [x])).length (vflat (wf15 p (pre ++ [x]))):=by
    rw [(hpw.out true HPB.out.symm).1 rfl,vflat_append,HXF.out,List.length_append,List.length_singleton];exact h3
   have hKO:=(KeepsOthers.of_grownBy (grown15 k2) (fun j o e=>by cases e)).trans hk3
   have hBF:=hB2.trans hb3;clear h3
   first
    | refine⟨hKO.from _,hKO.walks,⟨⟨⟨_,hv3,h4,trivial⟩,?_⟩,?_⟩,hBF⟩
    | refine⟨hKO.from _,hKO.walks,⟨⟨⟨_,hv3,h4⟩,?_⟩,?_⟩,hBF⟩
   ·exact(((hf.kept (grown15 k2) (by simp)).alloc _).kept hgrow (fun e=>by have:=(hrow2.lt _ e.symm).1; omega)).kept (grownBy_setCell' _ (w.heap.size + 1) _) (by simp)
   ·have:=hgrow.size
    have:=k2.size;simp at *
    omega
  | false=>
   gi_wp2_with (first
    | (refine inL_load rfl 36 _ rfl Bx 0 rfl (.agg XC.toArray) hla ?_)
    | (refine⟨trivial,?_⟩; gi_at_call 16; refine(CallsIn.inRound l ((callsIn_wide).2 hcal)).mono ?_; rintro e W2 ⟨rfl,k2⟩)
    | gi_in)
   have hB2:Below w.heap.size w W2:=hB.trans ((below15 k2).mono hB.size)
   have h4:W2.ownsRow (w.heap.size + 3) 36 66 v (wf15 p (pre ++ [x])).length (vflat (wf15 p (pre ++ [x]))):=by
    rw [(hpw.out false HPB.out.symm).2 rfl];exact hrow.kept (row:=none) (grown15 k2) (by cases v.ownBlock <;> simp)
   have hKO:KeepsOthers W W2:=KeepsOthers.of_grownBy (grown15 k2) (fun j o e=>by cases e)
   first
    | exact⟨hKO.from _,hKO.walks,⟨⟨⟨v,hv.kept (grown15 k2) (by simp),h4,trivial⟩,hf.kept (grown15 k2) (by simp)⟩,Nat.le_trans hsz k2.size⟩,hB2⟩
    | exact⟨hKO.from _,hKO.walks,⟨⟨⟨v,hv.kept (grown15 k2) (by simp),h4⟩,hf.kept (grown15 k2) (by simp)⟩,Nat.le_trans hsz k2.size⟩,hB2⟩
 case done=>
  rintro D ys W hD hperm ⟨⟨⟨⟨v,hv,hrow,_⟩,hf⟩,hsz⟩,hB⟩ hK;have hPF:(wf15 p ys).Perm (L.filter p):=hperm.filter p;have hc:=hv.cell;have hOV:OwnV W (w.heap.size + 3) v (wf15 p ys):=⟨wf15_ok p ys,hrow⟩;have hlw:=hrow.lt
  have hwl:(wf15 p ys).length < 1073741824:=by
   have:=hPF.length_eq;have:=List.length_filter_le p L
   omega
  rcases hrow.2 with ⟨rfl,h0⟩ | ⟨g,cap,cur,rfl,hb,hh,_⟩
  ·have HN:=hid (fun x=>(callsIn_wide (n:=2)).2 (sort_none15 none 0 (.func (.func 24) #[] #[]) x))
   gi_wp2_with (refine⟨trivial,?_⟩; gi_at_call 23; refine(HN.out _).mono ?_; rintro e w' ⟨rfl,hw'⟩; subst w')
   refine⟨by simp,.inl ⟨_,_,rfl,run_takeDeferred hK,?_⟩⟩;refine⟨_,results_tmp rfl _ _ _,.slice none 0 0,[],rfl,Vs.nil _,?_,fun g e=>by simp [Value.ownBlock] at e,Kept.ofBelow (hB.trans (belowK_b (w:=w) (Nat.le_refl _) W D _ _ (by simp at hD; omega) hK rfl rfl)) (Nat.le_refl _)⟩
   rw [List.length_eq_zero_iff] at h0;rw [← h0];exact hPF
  ·obtain⟨wl,hwle⟩:∃ x,x = (wf15 p ys).length:=⟨_,rfl⟩
   have hso:=sort15 (wf15 p ys) (w.heap.size + 3) g cap W hOV hwl;rw [← hwle] at hso;have HN:=hid ((callsIn_wide (n:=2)).2 hso)
   have hgD:D≠g:=by
    rintro rfl;rw [hh] at hK
    cases hK
   have hgl:=(hlw g rfl).1;have HHG:=hid (show w.heap.size + 1≠g by omega)
   have HRF:=hid hv.lt;rw [← hwle] at hc;clear hso hwle hwl hOV hlw hh hv hf hb
   gi_wp2_with (refine⟨trivial,?_⟩; gi_at_call 23; refine(HN.out).mono ?_; rintro e w2 ⟨rfl,R,hR,hvs,k2⟩; have hc2:=(k2.cell (p:=⟨w.heap.size + 1,0,none⟩) HRF.out HHG.out).trans hc)
   have hK2:w2.heap[D]? = some (.deferred (some [])):=(k2.block D (lt_of_block hK) hgD).trans hK;refine⟨by simp,.inl ⟨_,_,rfl,run_takeDeferred hK2,?_⟩⟩;refine⟨_,results_tmp rfl _ _ _,_,R,rfl,?_,hR.trans hPF,fun g2 e=>by simp [Value.ownBlock] at e; omega,?_⟩
   ·obtain⟨h1,ad,g3,c3,e3,h2⟩:=hvs
    refine⟨h1,ad,g3,c3,e3,fun i hi=>?_⟩
    obtain⟨a1,a2,a3⟩:=h2 i hi;injection e3 with e4 _ _
    rw [a1] at e4;injection e4 with e4
    injection e4 with e4 _ _
    refine⟨a1,by simpa using a2,fun j u hu=>?_⟩
    rw [World.cell?_of_block (a:=⟨g3,i * 66 + j,none⟩) (w:=w2) (World.putObj_heap_other (by rw [← e4]; exact fun e=>hgD e.symm))]
    exact a3 j u hu
   ·have hB2:Below w.heap.size w w2:=hB.trans ⟨k2.os,k2.tape,k2.output,k2.size,fun k hk=>k2.block k (Nat.lt_of_lt_of_le hk hB.size) (by omega)⟩
    exact Kept.ofBelow (hB2.trans (belowK_b (w:=w) (Nat.le_refl _) w2 D _ _ (by simp at hD; omega) hK2 rfl rfl)) (Nat.le_refl _)
 case stop=>
  rintro D c pre W _ _ h _;exact h.elim
theorem sorted_all15 {sb n:Nat}{F:Nat→Prop}{keep:Int}{L:List Vx}{h:Option Vx}{P:List (List UInt8)}(w:World)(ds:Dst w sb F keep n L h P):
  Calls Try.prog 15 #[.pointer (some ⟨sb,0,none⟩),.func (.func 19) #[] #[]] w (SortedP (fun _=>true) L w):=callsIn_wide.1 (sorted_all_in w ds)
theorem sorted_low15 {sb n:Nat}{F:Nat→Prop}{keep:Int}{L:List Vx}{h:Option Vx}{P:List (List UInt8)}(w:World)(ds:Dst w sb F keep n L h P)(B:Nat)(fl:Int)(hBf:Boxed w B 3 (.int .i64 fl)):
  Calls Try.prog 15 #[.pointer (some ⟨sb,0,none⟩),.func (.func 16) #[] #[.pointer (some ⟨B,0,none⟩)]] w (SortedP (fun v=>decide (v.dep < fl)) L w):=callsIn_wide.1 (sorted_low_in w ds B fl hBf)
end Go.Proofs.Ytfbfdaeagpdaiaa
