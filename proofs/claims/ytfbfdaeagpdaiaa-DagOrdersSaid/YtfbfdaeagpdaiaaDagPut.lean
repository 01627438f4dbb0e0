/-
 The landed put.
-/
import Derived.Test.YtfbfdaeagpdaiaaDagPutMem
set_option maxRecDepth 100000
set_option maxHeartbeats 25600000
namespace Go.Proofs.Ytfbfdaeagpdaiaa
open Go.RowKit Go.Lib
open List renaming setIfInBounds_toArray → sA, set_cons_zero → sB, set_cons_succ → sC
open BigFrame renaming wpList_want → wQ
theorem setCells15 {b:Nat}{t:TypeId}:∀ (vs A B C:List Value) (w:World),vs.length = B.length→w.heap[b]? = some (.cells (A ++ (B ++ C)).toArray t (0,0))→(w.setCells b A.length vs).heap[b]? = some (.cells (A ++ (vs ++ C)).toArray t (0,0))∧(∀ k,k≠b→(w.setCells b A.length vs).heap[k]? = w.heap[k]?)∧(w.setCells b A.length vs).heap.size = w.heap.size∧(w.setCells b A.length vs).os = w.os∧(w.setCells b A.length vs).tape = w.tape∧(w.setCells b A.length vs).output = w.output
 | [],A,[],C,w,_,h=>⟨h,fun _ _=>rfl,rfl,rfl,rfl,rfl⟩
 | v :: vs,A,x :: B,C,w,hl,h=>by
  have h1:=cells_set h A.length v;have e1:(A ++ (x :: B ++ C)).set A.length v = (A ++ [v]) ++ (B ++ C):=by simp
  rw [e1] at h1;have:=setCells15 vs (A ++ [v]) B C _ (by simpa using hl) h1
  rw [World.setCells];have e2:(A ++ [v]).length = A.length + 1:=by simp
  rw [e2] at this;have e3:(A ++ [v]) ++ (vs ++ C) = A ++ (v :: vs ++ C):=by simp
  rw [e3] at this;refine⟨this.1,fun k hk=>(this.2.1 k hk).trans (setCell_other w b A.length v k hk),this.2.2.1.trans (by simp [World.setCell]),this.2.2.2.1,this.2.2.2.2.1,this.2.2.2.2.2⟩
section
variable {P:Program} {o:Oper} {a:Act} {w w':World} {K:Act→World→Prop} {Q:Exit→Act→World→Prop}
theorem wp_update_run15 (m x y:Operand)(t:TypeId)(ho:o.op = .mapUpdate t m x y)(hd:o.dst = none)(v s u:Value)(hs:a.eval m = v)(hx:a.eval x = s)(hy:a.eval y = u)(hr:(Instr.mapUpdate t v s u).run P w = .ok () w')(hk:K a w'):o.wp P a w K Q:=
 wp_update_run m x y t ho v s u hs hx hy hr (by rw [hd]; exact hk)
theorem wp_makeMap15 (t:TypeId)(ho:o.op = .makeMap t none)(d:Option Tmp)(hd:o.dst = d)(v:Value)(hr:(Instr.makeMap t none).run P w = .ok v w')(h:K (a.put d v) w'):o.wp P a w K Q:=by
 subst hd;unfold Oper.wp execOp;simp only [ho,Option.map_none,Sem.run_bind,hr,Result.andThen_ok,Sem.run_pure];exact h
end
theorem build_unit15 (w:World):(Instr.build 56 #[]).run Try.prog w = .ok (.agg #[]) w:=by kernel_rfl
theorem Dfr.same1 {F:Nat→Prop}{w w1 w2:World}(h:Dfr F w w1){b:Nat}(hb:F b∨w.heap.size≤b)(h1:∀ k,k≠b→w2.heap[k]? = w1.heap[k]?)(h2:w2.heap.size = w1.heap.size)(h3:w2.os = w1.os)(h4:w2.tape = w1.tape)(h5:w2.output = w1.output):Dfr F w w2:=
 ⟨h3.trans h.os,h4.trans h.tape,h5.trans h.output,by rw [h2]; exact h.size,fun k hk hn=>(h1 k (fun e=>by
  subst e
  rcases hb with h | h
  ·exact hn h
  ·omega)).trans (h.block k hk hn)⟩
theorem put15 {sb n:Nat}{F:Nat→Prop}{keep:Int}{L:List Vx}{h:Option Vx}{P:List (List UInt8)}(w:World)(ds:Dst w sb F keep n L h P)(v:Vx)(hv:v.Ok)(hn:Need keep L h v)(hm:n + 1≤100000):
  Calls Try.prog 14 #[.pointer (some ⟨sb,0,none⟩),v.val] w (PutP w sb F keep n L h P v):=by
 have HHD:=hid (fun(x:World) (k:Kept w.heap.size w.heap.size w x)=>head15 x (ds.kept k))
 obtain⟨vb,bb,hd,d⟩:=ds;obtain⟨G,hG,hGv⟩:=d.bp;have hok:=head_ok15 d.st;have HPD:=hid (fun(x:World) (hd':List UInt8) (G':Lit→Option Value) (tb:Nat)=>put_done (x:=x) (hd':=hd') (G':=G') (tb:=tb) d hGv hv hn hm)
 have HGI:Hid (∀ y,G (.string v.par) = some y→∃ ib,y = .map (some ib)∧F ib∧ib < w.heap.size∧ib≠vb∧ib≠bb∧ib≠sb∧In15 w ib n):=hid (fun y hy=>by
  obtain⟨_,ib,e,f1,n1,n2,hi⟩:=hGv _ _ hy;refine⟨ib,e,f1,d.lt ib f1,n1,n2,?_,hi⟩;rintro rfl;obtain⟨D,es,clock,hb,_⟩:=hi;rw [d.blk] at hb
  cases hb)
 have HSV:Hid (sb≠vb∧sb≠bb∧vb≠bb∧sb < w.heap.size∧vb < w.heap.size∧bb < w.heap.size):=hid ⟨(by
  rintro rfl;obtain⟨D,⟨es,clock,hb,_⟩,_⟩:=d.vp;rw [d.blk] at hb
  cases hb),(by
  rintro rfl;obtain⟨D,⟨es,clock,hb,_⟩,_⟩:=hG;rw [d.blk] at hb
  cases hb),d.ne,d.lt sb d.fs,d.lt vb d.fv,d.lt bb d.fb⟩
 have HVP:=hid d.vp;have HMG:=hid hG;have HBK:=hid d.blk;have HD32:=hid d.hd32;have HUP:=hid (fun(x:World) (b m:Nat) (hx:Vp x b m L) (hmm:m < maxLen)=>hx.put hv hn.2.2.1 hmm)
 have HNM:=hid (show n < maxLen from Nat.lt_of_lt_of_le (show n < 100000 by omega) (by decide))
 have HLP:=hid (fun(x:World) (m:Nat) (g:Lit→Option Value) (hg:Mp x 30 bb m g)=>behind_look hg hv.2)
 have HST:=hid (fun(x:World) (m:Nat) (g:Lit→Option Value) (hg:Mp x 30 bb m g) (hmm:m < maxLen) (val:Value)=>hg.store hash_keyed Try.underlying47 hmm (keyOf_hash v.par hv.2) val)
 have HIP:=hid (fun(x:World) (b m:Nat) (hi:In15 x b m) (hmm:m < maxLen)=>hi.put hn.1 hn.2.1 hmm)
 have HVI:=hid (fun(x:World) (g:Nat) (hg:Vb x g v)=>hg.lid hv)
 have HVQ:=hid (fun(x:World) (g:Nat) (hg:Vb x g v)=>hg.lpar hv)
 have HVE:=hid (fun(x:World) (g:Nat) (hg:Vb x g v)=>hg.ldep hv)
 have HVA:=hid (fun(x:World) (g:Nat) (hg:Vb x g v)=>hg.all hv)
 have HVW:=hid (show ∀ (x:World) (g:Nat),x.heap[g]? = some (.cells v.cells.toArray 36 (0,0))→Vb x g v from fun x g h=>h)
 have HUW:=hid (show ∀ (x:World) (g:Nat),x.heap[g]? = some (.cells (h.getD Vx.zero).cells.toArray 36 (0,0))→Vb x g (h.getD Vx.zero) from fun x g h=>h)
 have HUA:=hid (fun(x:World) (g:Nat) (hg:Vb x g (h.getD Vx.zero))=>hg.all hok)
 have HLE:=hid (fun(x:World)=>leads15 v (h.getD Vx.zero) hv hok x)
 have HHE:Hid (head2 h = .returned (.tuple #[.agg (h.getD Vx.zero).cells.toArray,.bool h.isSome])):=hid rfl;rw [HHE.out] at HHD;have HCI:=hid (vxSize15 hok);have HCS:=hid (show(h.getD Vx.zero).cells.toArray.size = 66 by rw [List.size_toArray,Vx.cells_length hok])
 have HCA:=hid (Vx.cells_all (h.getD Vx.zero));have HT1:Hid (h.isSome = false→v.id = (Dg.newTop h v).id):=hid (fun hi=>by cases h <;> simp [Dg.newTop] at hi ⊢)
 have HT2:Hid (h.isSome = true→Vx.lead v (h.getD Vx.zero) = true→v.id = (Dg.newTop h v).id):=hid (fun hi hl=>by
  cases h with
  | none=>cases hi
  | some t=>simp only [Dg.newTop]; rw [if_pos (by simpa using hl)])
 have HT3:Hid (h.isSome = true→Vx.lead v (h.getD Vx.zero) = false→hd = (Dg.newTop h v).id):=hid (fun hi hl=>by
  have ht:=d.top
  cases h with
  | none=>cases hi
  | some t=>
   simp only [Dg.newTop];rw [if_neg (by simp at hl; simp [hl])]
   exact ht t rfl)
 have HIC:Hid ((bcells v.id).length = (bcells hd).length∧(bcells v.id).length = 32):=hid ⟨by rw [bcells_length,bcells_length,hv.1,d.hd32],by rw [bcells_length,hv.1]⟩
 have HIA:=hid (bcells_all v.id);have HSC:=hid (show ∀ i:List UInt8,scells keep vb i bb = [.int .i64 keep,.map (some vb)] ++ (bcells i ++ [.map (some bb)]) from fun i=>rfl)
 have HVM:=hid (fun(x:World) (i:List UInt8) (hx:x.heap[sb]? = some (.cells (scells keep vb i bb).toArray 49 (0,0)))=>load_map15 (w:=x) (g:=sb) (o:=1) (x:=some vb) (cells_get hx rfl))
 have HBM:=hid (fun(x:World) (i:List UInt8) (hi:i.length = 32) (hx:x.heap[sb]? = some (.cells (scells keep vb i bb).toArray 49 (0,0)))=>load_behind15 (w:=x) (g:=sb) (o:=34) (x:=some bb) (cells_get hx (by
  simp only [scells,List.getElem?_cons_succ];rw [List.getElem?_append_right (by rw [bcells_length,hi]; exact Nat.le_refl _),bcells_length,hi]
  rfl)))
 have HID:=hid hv.1;obtain⟨vd,hvd⟩:∃ x,x = v.dep:=⟨_,rfl⟩;rw [← hvd] at HVE HIP;obtain⟨gl,hgl⟩:∃ x,x = G (.string v.par):=⟨_,rfl⟩;have HGL:=hid hgl;rw [← hgl] at HGI;obtain⟨ld,hld⟩:∃ x,x = Vx.lead v (h.getD Vx.zero):=⟨_,rfl⟩;rw [← hld] at HLE HT2 HT3;unfold Vx.val at HUP HVA HUA HLE ⊢;generalize (h.getD Vx.zero).cells.toArray = CC at HHD HCI HCS HCA HUW HUA HLE;generalize h.isSome = ob at HHD HT1 HT2 HT3;generalize v.cells.toArray = VC at HVW HVA HUP HLE ⊢;obtain⟨pc,hpc⟩:∃ x,x = (bcells v.par).toArray:=⟨_,rfl⟩;rw [← hpc] at HLP HST HVQ;obtain⟨ic,hic⟩:∃ x,x = (bcells v.id).toArray:=⟨_,rfl⟩;have HII:=hid hic;rw [← hic] at HVI HUP HIA;have HIZ:=hid (show ic.size = 32 by rw [hic,List.size_toArray]; exact HIC.out.2)
 obtain⟨ZC,hZC⟩:∃ x,x = Vx.zero.cells.toArray:=⟨_,rfl⟩;have HZE:=hid hZC.symm;have HZS:=hid (show ZC.size = 66 by rw [hZC,List.size_toArray,Vx.cells_length Vx.zero_ok])
 clear d hG hGv hok hv hn hm hZC hvd hgl hld hpc hic HHE
 go_enter Try.func14,Try.ntmps14
 go_upto_region 0 with fail
 refine wp_region_lit ?_;refine @wQ _ _ _ _ _ _ _ ?_ ?_;kernel_rfl;intro K hK;go_simp;refine hK _ _ ?_;clear hK K;have k2:Kept w.heap.size w.heap.size w (w.alloc (.cells VC 36)):=(Kept.refl _ _ _).alloc (Nat.le_refl _) _
 have b1:=HVW.out _ _ (heap_new w (.cells VC 36))
 obtain⟨g0,hg0⟩:∃ x,x = w.heap.size:=⟨_,rfl⟩;have HG0:=hid (show w.heap.size≤g0 by omega)
 rw [← hg0] at b1;generalize w.alloc (.cells VC 36) = w2 at k2 b1 ⊢
 rw [← hg0];have K2:=hid k2;have B1:=hid b1;clear k2 b1 hg0
 go_upto_region 1 with fail
 refine wp_region_lit ?_;refine @wQ _ _ _ _ _ _ _ ?_ ?_;kernel_rfl;intro K hK;go_simp;refine hK _ _ ?_;clear hK K;refine @wQ _ _ _ _ _ _ _ ?_ ?_;kernel_rfl;intro K hK;go_simp;go_at_call 8
 refine(HHD.out _ K2.out).mono ?_;rintro e w3 ⟨rfl,k3⟩;have K3:=hid k3;have HVW3:=hid (B1.out.kept k3);clear k3;refine hK _ _ ?_;clear hK K;iterate 3 (refine @wQ _ _ _ _ _ _ _ ?_ ?_;kernel_rfl;intro K hK;go_simp;refine hK _ _ ?_;clear hK K)
 refine @wpL_alloc _ _ _ _ _ _ _ _ ?_ 36 rfl _ (alloc_vx15 _) ?_;kernel_rfl
 simp only [Act.put,sA,sB,sC];rw [HZE.out];refine wpList_store_row rfl 36 _ _ rfl (w3.heap.size) CC rfl rfl 36 ZC (heap_new _ _) (HCI.out) (by rw [HCS.out,HZS.out]) (HCA.out) ?_
 simp only [Act.put];rw [World.setRow_alloc_new];refine @wQ _ _ _ _ _ _ _ ?_ ?_;kernel_rfl;intro K hK;go_simp;refine hK _ _ ?_;clear hK K;have hka:=(K2.out.onto K3.out).alloc (K2.out.onto K3.out).size (.cells CC 36)
 have hb3:=HUW.out _ _ (heap_new w3 (.cells CC 36))
 have hbv:=(HVW3.out).kept (kA w3 (.cells CC 36))
 obtain⟨g1,hg1⟩:∃ x,x = w3.heap.size:=⟨_,rfl⟩;rw [← hg1] at hb3;generalize w3.alloc (.cells CC 36) = w4 at hka hb3 hbv ⊢
 rw [← hg1];have K4:=hid hka;have B4:=hid hbv;have U4:=hid hb3;clear hka hb3 hbv hg1 K3 HVW3
 cases ob with
 | false=>
  go_upto_region 2 with fail
  refine wp_region_lit ?_;iterate 3 (refine @wQ _ _ _ _ _ _ _ ?_ ?_;kernel_rfl;intro K hK;go_simp;refine hK _ _ ?_;clear hK K)
  refine @wpList_skip _ _ _ _ _ _ _ ?_ ?_;kernel_rfl;simp only [Act.put,sA,sB,sC];refine @wpList_skip _ _ _ _ _ _ _ ?_ ?_;kernel_rfl;simp only [Act.put,sA,sB,sC];refine @wpList_skip _ _ _ _ _ _ _ ?_ ?_;kernel_rfl;simp only [Act.put,sA,sB,sC];refine @wQ _ _ _ _ _ _ _ ?_ ?_;kernel_rfl;intro K hK;go_simp;refine hK _ _ ?_;clear hK K;have KZ:=hid K4.out;have BZ:=hid B4.out;generalize w4 = wz at KZ BZ ⊢
  go_upto_region 3 with fail
  refine wp_region_lit ?_;iterate 2 (refine @wQ _ _ _ _ _ _ _ ?_ ?_;kernel_rfl;intro K hK;go_simp;refine hK _ _ ?_;clear hK K)
  refine @wpList_load_known _ _ _ _ _ _ _ ?_ 30 (.tmp 19) rfl (g0) (0) rfl (.agg ic) (HVI.out _ _ BZ.out) ?_;kernel_rfl
  simp only [Act.put,sA,sB,sC];iterate 2 (refine @wQ _ _ _ _ _ _ _ ?_ ?_;kernel_rfl;intro K hK;go_simp;refine hK _ _ ?_;clear hK K)
  have hrz:=row_kept HBK.out KZ.out;rw [HSC.out] at hrz;have hsz:=setCells15 (bcells v.id) [.int .i64 keep,.map (some vb)] (bcells hd) [.map (some bb)] wz HIC.out.1 hrz
  have hth:wz.there sb 2 ic.size:=fun j hj=>by
   rw [HIZ.out] at hj;have hl:([Value.int .i64 keep,Value.map (some vb)] ++ (bcells hd ++ [Value.map (some bb)])).length = 35:=by simp [bcells_length,HD32.out]
   exact⟨by rw [cells_at hrz (2 + j) (by rw [hl]; omega)]; rfl,cells_free hrz (2 + j)⟩
  refine wpList_store_mid rfl 30 _ _ rfl sb 2 ic rfl rfl hth (by rw [hashInfo15,HIZ.out]) HIA.out ?_
  simp only [Act.put];have hlist:ic.toList = bcells v.id:=by rw [HII.out]
  rw [hlist];have hR:=hsz.1;rw [← HSC.out] at hR;have hDF:∀ TB:Nat,Dfr (Tch sb vb bb TB) w (wz.setCells sb 2 (bcells v.id)):=fun TB=>(Dfr.of_kept KZ.out).same1 (.inl (.inl rfl)) hsz.2.1 hsz.2.2.1 hsz.2.2.2.1 hsz.2.2.2.2.1 hsz.2.2.2.2.2
  have hBV:Vb (wz.setCells sb 2 (bcells v.id)) g0 v:=(hsz.2.1 g0 (fun e=>by have:=HG0.out; have:=HSV.out.2.2.2.1; omega)).trans BZ.out
  have hVP:=HVP.out.same (w':=wz.setCells sb 2 (bcells v.id)) ((hsz.2.1 vb (fun e=>HSV.out.1 e.symm)).trans (row_kept' KZ.out HSV.out.2.2.2.2.1))
  have hMG:=HMG.out.same (w':=wz.setCells sb 2 (bcells v.id)) ((hsz.2.1 bb (fun e=>HSV.out.2.1 e.symm)).trans (row_kept' KZ.out HSV.out.2.2.2.2.2))
  have hHD:=HID.out;clear hrz hsz hth hlist;generalize wz.setCells sb 2 (bcells v.id) = w6 at hR hDF hBV hVP hMG ⊢;obtain⟨hx,hhx⟩:∃ x,x = v.id:=⟨_,rfl⟩;rw [← hhx] at hR hHD;have HTP:=hid (show hx = (Dg.newTop h v).id by rw [hhx]; exact HT1.out rfl)
  clear hhx
  go_wp2_with fail
  have HR:=hid hR;have HDF:=hid (fun tb:Nat=>hDF tb)
  have HBV:=hid hBV;have HV6:=hid hVP;have HM6:=hid hMG;have HH6:=hid hHD;clear hR hDF hBV hVP hMG hHD
  go_upto_region 4 with fail
  refine wp_region_noPanic ?_;refine wp_region_heldTo 7 (S:=fun x=>Kept w6.heap.size w6.heap.size w6 x) (by kernel_rfl) ((Kept.refl w6.heap.size w6.heap.size w6).drew) (fun hH=>?_)
  obtain⟨wd,hwd⟩:∃ x,x = w6.drew:=⟨_,rfl⟩;rw [← hwd] at hH ⊢;clear hwd;refine heldTo_take_ex (i:=0) 23 rfl rfl (by kernel_rfl) (by kernel_rfl) (by kernel_rfl) (by kernel_rfl) (fun _ _ _ _ h=>h) (by kernel_rfl) hH ?_
  apply Exists.intro;apply And.intro
  ·intro w9 h9
   go_simp
   first | done | rfl
  simp only [sA,sB,sC];refine heldTo_take_ex (i:=1) 24 rfl rfl (by kernel_rfl) (by kernel_rfl) (by kernel_rfl) (by kernel_rfl) (fun _ _ _ _ h=>h) (by kernel_rfl) hH ?_
  apply Exists.intro;apply And.intro
  ·intro w9 h9
   go_simp
   first | done | rfl
  simp only [sA,sB,sC];refine heldTo_take_ex (i:=2) 25 rfl rfl (by kernel_rfl) (by kernel_rfl) (by kernel_rfl) (by kernel_rfl) (fun _ _ _ _ h=>h) (by kernel_rfl) hH ?_
  apply Exists.intro;apply And.intro
  ·intro w9 h9
   go_simp
   first | done | rfl
  simp only [sA,sB,sC];refine heldTo_take (i:=3) 26 (.map (some vb)) rfl rfl (by kernel_rfl) (by kernel_rfl) (by kernel_rfl) (by kernel_rfl) (fun _ _ _ h=>h) (yieldsIf_load_known (by kernel_rfl) 46 _ rfl (sb) (1) rfl (.map (some vb)) (fun x k=>HVM.out x hx (row_kept HR.out k))) hH ?_
  simp only [sA,sB,sC];refine heldTo_take_ex (i:=4) 27 rfl rfl (by kernel_rfl) (by kernel_rfl) (by kernel_rfl) (by kernel_rfl) (fun _ _ _ _ h=>h) (by kernel_rfl) hH ?_
  apply Exists.intro;apply And.intro
  ·intro w9 h9
   go_simp
   first | done | rfl
  simp only [sA,sB,sC];refine heldTo_take (i:=5) 28 (.agg ic) rfl rfl (by kernel_rfl) (by kernel_rfl) (by kernel_rfl) (by kernel_rfl) (fun _ _ _ h=>h) (yieldsIf_load_known (by kernel_rfl) 30 _ rfl (g0) (0) rfl (.agg ic) (fun x k=>HVI.out x g0 (HBV.out.kept k))) hH ?_
  simp only [sA,sB,sC];refine heldTo_take (i:=6) 29 (.agg VC) rfl rfl (by kernel_rfl) (by kernel_rfl) (by kernel_rfl) (by kernel_rfl) (fun _ _ _ h=>h) (yieldsIf_load_known (by kernel_rfl) 36 _ rfl (g0) (0) rfl (.agg VC) (fun x k=>HVA.out x g0 (HBV.out.kept k))) hH ?_
  simp only [sA,sB,sC];refine heldTo_last (by kernel_rfl) rfl (fun K hK=>?_)
  rw [if_pos (by rfl)]
  obtain⟨w7,hrun,hvp7,ht7⟩:=HUP.out wd vb n (HV6.out.same (row_kept' hH HV6.out.lt)) HNM.out;refine wp_update_run15 (.tmp 26) (.tmp 28) (.tmp 29) 46 rfl rfl (.map (some vb)) (.agg ic) (.agg VC) rfl rfl rfl hrun ?_
  have HR7:=hid ((turned_other ht7 HSV.out.1).trans (row_kept HR.out hH));have HB7:=hid (show Vb w7 g0 v from(turned_other ht7 (fun e=>by have:=HG0.out; have:=HSV.out.2.2.2.2.1; omega)).trans (HBV.out.kept hH))
  have HM7:=hid (HM6.out.same ((turned_other ht7 (fun e=>HSV.out.2.2.1 e.symm)).trans (row_kept' hH HM6.out.lt)))
  have HV7:=hid hvp7;have HDF7:=hid (fun tb:Nat=>((HDF.out tb).andKept hH).turned ht7 (.inl (.inr (.inl rfl))))
  clear hvp7 ht7 hrun;refine hK _ _ ?_;clear hK K;refine heldTo_done (by kernel_rfl) ?_ _
  refine NoPanic.normal ?_;clear hH;clear HR HBV HV6 HM6 HDF
  go_upto_region 5 with fail
  cases gl with
  | none=>
   have HLL:Hid (∀ x:World,Kept w7.heap.size w7.heap.size w7 x→(Instr.lookup 47 (.map (some bb)) (.agg pc) false).run Try.prog x = .ok (.map none) x):=hid (fun x k=>by
    have h9:=HLP.out x n G (HM7.out.same (row_kept' k HM7.out.lt));rw [← HGL.out] at h9
    exact h9)
   refine wp_region_noPanic ?_;refine wp_region_held_drew (S:=fun w'=>Kept w7.heap.size w7.heap.size w7 w') (by kernel_rfl) ((Kept.refl _ _ _).drew) (fun hH=>?_)
   obtain⟨wd,hwd⟩:∃ x,x = w7.drew:=⟨_,rfl⟩;rw [← hwd] at hH ⊢;clear hwd;refine wpAnyH_take_ex (i:=0) 30 rfl rfl (by kernel_rfl) (by kernel_rfl) (by kernel_rfl) (fun _ _ _ _ h=>h) (by kernel_rfl) hH ?_
   apply Exists.intro;apply And.intro
   ·intro w9 _
    go_simp
    first | done | rfl
   simp only [sA,sB,sC];refine wpAnyH_take_ex (i:=1) 31 rfl rfl (by kernel_rfl) (by kernel_rfl) (by kernel_rfl) (fun _ _ _ _ h=>h) (by kernel_rfl) hH ?_
   apply Exists.intro;apply And.intro
   ·intro w9 _
    go_simp
    first | done | rfl
   simp only [sA,sB,sC];refine wpAnyH_take_ex (i:=2) 32 rfl rfl (by kernel_rfl) (by kernel_rfl) (by kernel_rfl) (fun _ _ _ _ h=>h) (by kernel_rfl) hH ?_
   apply Exists.intro;apply And.intro
   ·intro w9 _
    go_simp
    first | done | rfl
   simp only [sA,sB,sC];refine wpAnyH_take_at (i:=3) 33 (.map (some bb)) rfl rfl (by kernel_rfl) (by kernel_rfl) (by kernel_rfl) (fun _ _ _ h=>h) (yieldsIf_load_known (by kernel_rfl) 47 _ rfl (sb) (34) rfl (.map (some bb)) (fun x k=>HBM.out x hx HH6.out (row_kept HR7.out k))) hH ?_
   simp only [sA,sB,sC];refine wpAnyH_take_ex (i:=4) 34 rfl rfl (by kernel_rfl) (by kernel_rfl) (by kernel_rfl) (fun _ _ _ _ h=>h) (by kernel_rfl) hH ?_
   apply Exists.intro;apply And.intro
   ·intro w9 _
    go_simp
    first | done | rfl
   simp only [sA,sB,sC];refine wpAnyH_take_at (i:=5) 35 (.agg pc) rfl rfl (by kernel_rfl) (by kernel_rfl) (by kernel_rfl) (fun _ _ _ h=>h) (yieldsIf_load_known (by kernel_rfl) 30 _ rfl (g0) (32) rfl (.agg pc) (fun x k=>HVQ.out x g0 (HB7.out.kept k))) hH ?_
   simp only [sA,sB,sC];refine wpAnyH_take_at (i:=6) 36 (.map none) rfl rfl (by kernel_rfl) (by kernel_rfl) (by kernel_rfl) (fun _ _ _ h=>h) (yieldsIf_lookup15 (by kernel_rfl) 47 _ _ false rfl (.map (some bb)) (.agg pc) rfl rfl (.map none) (fun x k=>HLL.out x k)) hH ?_
   simp only [sA,sB,sC];refine wpAnyH_take_ex (i:=7) 37 rfl rfl (by kernel_rfl) (by kernel_rfl) (by kernel_rfl) (fun _ _ _ _ h=>h) (by kernel_rfl) hH ?_
   apply Exists.intro;apply And.intro
   ·intro w9 _
    go_simp
    first | done | rfl
   simp only [sA,sB,sC];refine wpAnyH_done (by kernel_rfl) ?_ _
   refine NoPanic.normal ?_;have K8:=hid hH;clear hH;generalize wd = w8 at K8 ⊢;have HR8:=hid (row_kept HR7.out K8.out);have HB8:=hid (HB7.out.kept K8.out);have HM8:=hid (HM7.out.same (row_kept' K8.out HM7.out.lt));have HV8:=hid (HV7.out.same (row_kept' K8.out HV7.out.lt));have HDF8:=hid (fun tb:Nat=>(HDF7.out tb).andKept K8.out)
   clear HR7 HB7 HM7 HV7 HDF7 K8;clear HLL
   go_upto_region 6 with fail
   refine wp_region_noPanic ?_;refine wp_region_heldTo 7 (S:=fun x=>Kept w8.heap.size w8.heap.size w8 x) (by kernel_rfl) ((Kept.refl w8.heap.size w8.heap.size w8).drew) (fun hH=>?_)
   obtain⟨wd,hwd⟩:∃ x,x = w8.drew:=⟨_,rfl⟩;rw [← hwd] at hH ⊢;clear hwd;refine heldTo_take_ex (i:=0) 38 rfl rfl (by kernel_rfl) (by kernel_rfl) (by kernel_rfl) (by kernel_rfl) (fun _ _ _ _ h=>h) (by kernel_rfl) hH ?_
   apply Exists.intro;apply And.intro
   ·intro w9 h9
    go_simp
    first | done | rfl
   simp only [sA,sB,sC];refine heldTo_take_ex (i:=1) 39 rfl rfl (by kernel_rfl) (by kernel_rfl) (by kernel_rfl) (by kernel_rfl) (fun _ _ _ _ h=>h) (by kernel_rfl) hH ?_
   apply Exists.intro;apply And.intro
   ·intro w9 h9
    go_simp
    first | done | rfl
   simp only [sA,sB,sC];refine heldTo_take_ex (i:=2) 40 rfl rfl (by kernel_rfl) (by kernel_rfl) (by kernel_rfl) (by kernel_rfl) (fun _ _ _ _ h=>h) (by kernel_rfl) hH ?_
   apply Exists.intro;apply And.intro
   ·intro w9 h9
    go_simp
    first | done | rfl
   simp only [sA,sB,sC];refine heldTo_take (i:=3) 41 (.map (some bb)) rfl rfl (by kernel_rfl) (by kernel_rfl) (by kernel_rfl) (by kernel_rfl) (fun _ _ _ h=>h) (yieldsIf_load_known (by kernel_rfl) 47 _ rfl (sb) (34) rfl (.map (some bb)) (fun x k=>HBM.out x hx HH6.out (row_kept HR8.out k))) hH ?_
   simp only [sA,sB,sC];refine heldTo_take_ex (i:=4) 42 rfl rfl (by kernel_rfl) (by kernel_rfl) (by kernel_rfl) (by kernel_rfl) (fun _ _ _ _ h=>h) (by kernel_rfl) hH ?_
   apply Exists.intro;apply And.intro
   ·intro w9 h9
    go_simp
    first | done | rfl
   simp only [sA,sB,sC];refine heldTo_take (i:=5) 43 (.agg pc) rfl rfl (by kernel_rfl) (by kernel_rfl) (by kernel_rfl) (by kernel_rfl) (fun _ _ _ h=>h) (yieldsIf_load_known (by kernel_rfl) 30 _ rfl (g0) (32) rfl (.agg pc) (fun x k=>HVQ.out x g0 (HB8.out.kept k))) hH ?_
   simp only [sA,sB,sC];refine heldTo_one (i:=6) (by kernel_rfl) rfl (fun K hK=>?_)
   rw [if_pos (by rfl)]
   have er:=makeIn15 wd;have ho:=In15.made wd;have ka:=hH.onto (kA wd (.map #[] 0));obtain⟨nb,hnb⟩:∃ x,x = wd.heap.size:=⟨_,rfl⟩;have HNB:=hid (show w8.heap.size≤nb by rw [hnb]; exact hH.size)
   rw [← hnb] at er ho;generalize wd.alloc (.map #[] 0) = wa at er ho ka ⊢;refine wp_makeMap15 55 rfl (some 44) rfl _ er ?_
   simp only [Act.put,sA,sB,sC];have Kwa:=hid ka;have HIA9:=hid ho;clear er ho ka hnb;refine hK.out _ _ Kwa.out (fun hH=>?_)
   clear hK K;refine heldTo_last (by kernel_rfl) rfl (fun K hK=>?_)
   rw [if_pos (by rfl)]
   obtain⟨wb,hrun,hmb,hgb,hzb⟩:=HST.out wa n G (HM8.out.same (row_kept' Kwa.out HM8.out.lt)) HNM.out (.map (some nb));refine wp_update_run15 (.tmp 41) (.tmp 43) (.tmp 44) 47 rfl rfl (.map (some bb)) (.agg pc) (.map (some nb)) rfl rfl rfl hrun ?_
   have hob:=fun(k:Nat) (h1:k < wa.heap.size) (h2:k≠bb)=>hgb.block k h1 (fun e=>h2 (Option.some.inj e))
   have hw8:w.heap.size≤w8.heap.size:=(HDF8.out 0).size;have HRb:=hid ((hob sb (lt_of_block (row_kept HR8.out Kwa.out)) HSV.out.2.1).trans (row_kept HR8.out Kwa.out));have HBb:=hid (show Vb wb g0 v from(hob g0 (lt_of_block (HB8.out.kept Kwa.out)) (fun e=>by have:=HG0.out; have:=HSV.out.2.2.2.2.2; omega)).trans (HB8.out.kept Kwa.out))
   have HMb:=hid hmb;have HVb:=hid (HV8.out.same ((hob vb (Nat.lt_of_lt_of_le HV8.out.lt Kwa.out.size) HSV.out.2.2.1).trans (row_kept' Kwa.out HV8.out.lt)));have HIb:=hid (HIA9.out.same (hob nb HIA9.out.lt (fun e=>by have:=HNB.out; have:=HSV.out.2.2.2.2.2; omega)))
   have HDFb:=hid (((HDF8.out nb).andKept Kwa.out).same1 (.inl (.inr (.inr (.inl rfl)))) (fun k hk=>by
    rcases Nat.lt_or_ge k wa.heap.size with h1 | h1
    ·exact hob k h1 hk
    ·rw [Array.getElem?_eq_none (by rw [hzb]; exact h1),Array.getElem?_eq_none h1]) hzb hgb.os hgb.tape hgb.output)
   have HTN:=hid (show nb≠sb∧nb≠vb∧nb≠bb from⟨fun e=>by have:=HNB.out; have:=HSV.out.2.2.2.1; omega,fun e=>by have:=HNB.out; have:=HSV.out.2.2.2.2.1; omega,fun e=>by have:=HNB.out; have:=HSV.out.2.2.2.2.2; omega⟩)
   have HNW:=hid (show w.heap.size≤nb from Nat.le_trans hw8 HNB.out);clear hob hw8 hmb hgb hzb hrun;refine hK _ _ ?_;clear hK K;refine heldTo_done (by kernel_rfl) ?_ _
   refine NoPanic.normal ?_;clear hH
   have HLL:Hid (∀ x:World,Kept wb.heap.size wb.heap.size wb x→(Instr.lookup 47 (.map (some bb)) (.agg pc) false).run Try.prog x = .ok (.map (some nb)) x):=hid (fun x k=>by
    have h9:=HLP.out x (n + 1) _ (HMb.out.same (row_kept' k HMb.out.lt));rw [upd_same] at h9
    exact h9)
   go_upto_region 7 with fail
   refine wp_region_noPanic ?_;refine wp_region_heldTo 10 (S:=fun x=>Kept wb.heap.size wb.heap.size wb x) (by kernel_rfl) ((Kept.refl wb.heap.size wb.heap.size wb).drew) (fun hH=>?_)
   obtain⟨wd,hwd⟩:∃ x,x = wb.drew:=⟨_,rfl⟩;rw [← hwd] at hH ⊢;clear hwd;refine heldTo_take_ex (i:=0) 45 rfl rfl (by kernel_rfl) (by kernel_rfl) (by kernel_rfl) (by kernel_rfl) (fun _ _ _ _ h=>h) (by kernel_rfl) hH ?_
   apply Exists.intro;apply And.intro
   ·intro w9 h9
    go_simp
    first | done | rfl
   simp only [sA,sB,sC];refine heldTo_take_ex (i:=1) 46 rfl rfl (by kernel_rfl) (by kernel_rfl) (by kernel_rfl) (by kernel_rfl) (fun _ _ _ _ h=>h) (by kernel_rfl) hH ?_
   apply Exists.intro;apply And.intro
   ·intro w9 h9
    go_simp
    first | done | rfl
   simp only [sA,sB,sC];refine heldTo_take_ex (i:=2) 47 rfl rfl (by kernel_rfl) (by kernel_rfl) (by kernel_rfl) (by kernel_rfl) (fun _ _ _ _ h=>h) (by kernel_rfl) hH ?_
   apply Exists.intro;apply And.intro
   ·intro w9 h9
    go_simp
    first | done | rfl
   simp only [sA,sB,sC];refine heldTo_take (i:=3) 48 (.map (some bb)) rfl rfl (by kernel_rfl) (by kernel_rfl) (by kernel_rfl) (by kernel_rfl) (fun _ _ _ h=>h) (yieldsIf_load_known (by kernel_rfl) 47 _ rfl (sb) (34) rfl (.map (some bb)) (fun x k=>HBM.out x hx HH6.out (row_kept HRb.out k))) hH ?_
   simp only [sA,sB,sC];refine heldTo_take_ex (i:=4) 49 rfl rfl (by kernel_rfl) (by kernel_rfl) (by kernel_rfl) (by kernel_rfl) (fun _ _ _ _ h=>h) (by kernel_rfl) hH ?_
   apply Exists.intro;apply And.intro
   ·intro w9 h9
    go_simp
    first | done | rfl
   simp only [sA,sB,sC];refine heldTo_take (i:=5) 50 (.agg pc) rfl rfl (by kernel_rfl) (by kernel_rfl) (by kernel_rfl) (by kernel_rfl) (fun _ _ _ h=>h) (yieldsIf_load_known (by kernel_rfl) 30 _ rfl (g0) (32) rfl (.agg pc) (fun x k=>HVQ.out x g0 (HBb.out.kept k))) hH ?_
   simp only [sA,sB,sC];refine heldTo_take (i:=6) 51 (.map (some nb)) rfl rfl (by kernel_rfl) (by kernel_rfl) (by kernel_rfl) (by kernel_rfl) (fun _ _ _ h=>h) (yieldsIf_lookup15 (by kernel_rfl) 47 _ _ false rfl (.map (some bb)) (.agg pc) rfl rfl (.map (some nb)) (fun x k=>HLL.out x k)) hH ?_
   simp only [sA,sB,sC];refine heldTo_take_ex (i:=7) 52 rfl rfl (by kernel_rfl) (by kernel_rfl) (by kernel_rfl) (by kernel_rfl) (fun _ _ _ _ h=>h) (by kernel_rfl) hH ?_
   apply Exists.intro;apply And.intro
   ·intro w9 h9
    go_simp
    first | done | rfl
   simp only [sA,sB,sC];refine heldTo_take (i:=8) 53 (.int .i64 vd) rfl rfl (by kernel_rfl) (by kernel_rfl) (by kernel_rfl) (by kernel_rfl) (fun _ _ _ h=>h) (yieldsIf_load_known (by kernel_rfl) 3 _ rfl (g0) (64) rfl (.int .i64 vd) (fun x k=>HVE.out x g0 (HBb.out.kept k))) hH ?_
   simp only [sA,sB,sC];refine heldTo_take (i:=9) 54 (.agg #[]) rfl rfl (by kernel_rfl) (by kernel_rfl) (by kernel_rfl) (by kernel_rfl) (fun _ _ _ h=>h) (yieldsIf_build0 (by kernel_rfl) 56 rfl (.agg #[]) (fun x=>build_unit15 x)) hH ?_
   simp only [sA,sB,sC];refine heldTo_last (by kernel_rfl) rfl (fun K hK=>?_)
   rw [if_pos (by rfl)]
   obtain⟨w9,hrun,hin9,ht9⟩:=HIP.out wd nb 0 (HIb.out.same (row_kept' hH HIb.out.lt)) (Nat.lt_of_le_of_lt (Nat.zero_le _) HNM.out);refine wp_update_run15 (.tmp 51) (.tmp 53) (.tmp 54) 55 rfl rfl (.map (some nb)) (.int .i64 vd) (.agg #[]) rfl rfl rfl hrun ?_
   have HR9:=hid ((turned_other ht9 (fun e=>HTN.out.1 e.symm)).trans (row_kept HRb.out hH))
   have HM9:=hid (HMb.out.same ((turned_other ht9 (fun e=>HTN.out.2.2 e.symm)).trans (row_kept' hH HMb.out.lt)))
   have HV9:=hid (HVb.out.same ((turned_other ht9 (fun e=>HTN.out.2.1 e.symm)).trans (row_kept' hH HVb.out.lt)))
   have HI9:=hid hin9;have HDF9:=hid (((HDFb.out).andKept hH).turned ht9 (.inl (.inr (.inr (.inr rfl)))));clear hin9 ht9 hrun;refine hK _ _ ?_;clear hK K;refine heldTo_done (by kernel_rfl) ?_ _
   refine NoPanic.normal ?_;clear hH;go_wp2
   go_end0
   exact HPD.out _ _ _ _ HR9.out HTP.out HV9.out HM9.out (upd_same _ _ _) (fun l hl=>upd_other _ _ hl) (HI9.out.mono (by omega)) HTN.out.2.1 HTN.out.2.2 (.inr HNW.out) HDF9.out
  | some y=>
   obtain⟨ib,rfl,fib,lib,nvb,nbb,nsb,hib⟩:=HGI.out y rfl
   have HLL:Hid (∀ x:World,Kept w7.heap.size w7.heap.size w7 x→(Instr.lookup 47 (.map (some bb)) (.agg pc) false).run Try.prog x = .ok (.map (some ib)) x):=hid (fun x k=>by
    have h9:=HLP.out x n G (HM7.out.same (row_kept' k HM7.out.lt));rw [← HGL.out] at h9
    exact h9)
   have HTN:=hid (show ib≠sb∧ib≠vb∧ib≠bb from⟨nsb,nvb,nbb⟩);have HFI:=hid fib
   have HI7:=hid (hib.same ((HDF7.out bb).block ib lib (show ¬ Tch sb vb bb bb ib from fun h=>by
    rcases h with h | h | h | h
    ·exact nsb h
    ·exact nvb h
    ·exact nbb h
    ·exact nbb h)))
   clear fib lib nvb nbb nsb hib;refine wp_region_noPanic ?_;refine wp_region_held_drew (S:=fun w'=>Kept w7.heap.size w7.heap.size w7 w') (by kernel_rfl) ((Kept.refl _ _ _).drew) (fun hH=>?_)
   obtain⟨wd,hwd⟩:∃ x,x = w7.drew:=⟨_,rfl⟩;rw [← hwd] at hH ⊢;clear hwd;refine wpAnyH_take_ex (i:=0) 30 rfl rfl (by kernel_rfl) (by kernel_rfl) (by kernel_rfl) (fun _ _ _ _ h=>h) (by kernel_rfl) hH ?_
   apply Exists.intro;apply And.intro
   ·intro w9 _
    go_simp
    first | done | rfl
   simp only [sA,sB,sC];refine wpAnyH_take_ex (i:=1) 31 rfl rfl (by kernel_rfl) (by kernel_rfl) (by kernel_rfl) (fun _ _ _ _ h=>h) (by kernel_rfl) hH ?_
   apply Exists.intro;apply And.intro
   ·intro w9 _
    go_simp
    first | done | rfl
   simp only [sA,sB,sC];refine wpAnyH_take_ex (i:=2) 32 rfl rfl (by kernel_rfl) (by kernel_rfl) (by kernel_rfl) (fun _ _ _ _ h=>h) (by kernel_rfl) hH ?_
   apply Exists.intro;apply And.intro
   ·intro w9 _
    go_simp
    first | done | rfl
   simp only [sA,sB,sC];refine wpAnyH_take_at (i:=3) 33 (.map (some bb)) rfl rfl (by kernel_rfl) (by kernel_rfl) (by kernel_rfl) (fun _ _ _ h=>h) (yieldsIf_load_known (by kernel_rfl) 47 _ rfl (sb) (34) rfl (.map (some bb)) (fun x k=>HBM.out x hx HH6.out (row_kept HR7.out k))) hH ?_
   simp only [sA,sB,sC];refine wpAnyH_take_ex (i:=4) 34 rfl rfl (by kernel_rfl) (by kernel_rfl) (by kernel_rfl) (fun _ _ _ _ h=>h) (by kernel_rfl) hH ?_
   apply Exists.intro;apply And.intro
   ·intro w9 _
    go_simp
    first | done | rfl
   simp only [sA,sB,sC];refine wpAnyH_take_at (i:=5) 35 (.agg pc) rfl rfl (by kernel_rfl) (by kernel_rfl) (by kernel_rfl) (fun _ _ _ h=>h) (yieldsIf_load_known (by kernel_rfl) 30 _ rfl (g0) (32) rfl (.agg pc) (fun x k=>HVQ.out x g0 (HB7.out.kept k))) hH ?_
   simp only [sA,sB,sC];refine wpAnyH_take_at (i:=6) 36 (.map (some ib)) rfl rfl (by kernel_rfl) (by kernel_rfl) (by kernel_rfl) (fun _ _ _ h=>h) (yieldsIf_lookup15 (by kernel_rfl) 47 _ _ false rfl (.map (some bb)) (.agg pc) rfl rfl (.map (some ib)) (fun x k=>HLL.out x k)) hH ?_
   simp only [sA,sB,sC];refine wpAnyH_take_ex (i:=7) 37 rfl rfl (by kernel_rfl) (by kernel_rfl) (by kernel_rfl) (fun _ _ _ _ h=>h) (by kernel_rfl) hH ?_
   apply Exists.intro;apply And.intro
   ·intro w9 _
    go_simp
    first | done | rfl
   simp only [sA,sB,sC];refine wpAnyH_done (by kernel_rfl) ?_ _
   refine NoPanic.normal ?_;have K8:=hid hH;clear hH;generalize wd = w8 at K8 ⊢;have HR8:=hid (row_kept HR7.out K8.out);have HB8:=hid (HB7.out.kept K8.out);have HM8:=hid (HM7.out.same (row_kept' K8.out HM7.out.lt));have HV8:=hid (HV7.out.same (row_kept' K8.out HV7.out.lt));have HDF8:=hid (fun tb:Nat=>(HDF7.out tb).andKept K8.out)
   have HI8:=hid (HI7.out.same (row_kept' K8.out HI7.out.lt));clear HI7 HR7 HB7 HM7 HV7 HDF7 K8;clear HLL
   have HLL:Hid (∀ x:World,Kept w8.heap.size w8.heap.size w8 x→(Instr.lookup 47 (.map (some bb)) (.agg pc) false).run Try.prog x = .ok (.map (some ib)) x):=hid (fun x k=>by
    have h9:=HLP.out x n G (HM8.out.same (row_kept' k HM8.out.lt));rw [← HGL.out] at h9
    exact h9)
   go_upto_region 7 with fail
   refine wp_region_noPanic ?_;refine wp_region_heldTo 10 (S:=fun x=>Kept w8.heap.size w8.heap.size w8 x) (by kernel_rfl) ((Kept.refl w8.heap.size w8.heap.size w8).drew) (fun hH=>?_)
   obtain⟨wd,hwd⟩:∃ x,x = w8.drew:=⟨_,rfl⟩;rw [← hwd] at hH ⊢;clear hwd;refine heldTo_take_ex (i:=0) 45 rfl rfl (by kernel_rfl) (by kernel_rfl) (by kernel_rfl) (by kernel_rfl) (fun _ _ _ _ h=>h) (by kernel_rfl) hH ?_
   apply Exists.intro;apply And.intro
   ·intro w9 h9
    go_simp
    first | done | rfl
   simp only [sA,sB,sC];refine heldTo_take_ex (i:=1) 46 rfl rfl (by kernel_rfl) (by kernel_rfl) (by kernel_rfl) (by kernel_rfl) (fun _ _ _ _ h=>h) (by kernel_rfl) hH ?_
   apply Exists.intro;apply And.intro
   ·intro w9 h9
    go_simp
    first | done | rfl
   simp only [sA,sB,sC];refine heldTo_take_ex (i:=2) 47 rfl rfl (by kernel_rfl) (by kernel_rfl) (by kernel_rfl) (by kernel_rfl) (fun _ _ _ _ h=>h) (by kernel_rfl) hH ?_
   apply Exists.intro;apply And.intro
   ·intro w9 h9
    go_simp
    first | done | rfl
   simp only [sA,sB,sC];refine heldTo_take (i:=3) 48 (.map (some bb)) rfl rfl (by kernel_rfl) (by kernel_rfl) (by kernel_rfl) (by kernel_rfl) (fun _ _ _ h=>h) (yieldsIf_load_known (by kernel_rfl) 47 _ rfl (sb) (34) rfl (.map (some bb)) (fun x k=>HBM.out x hx HH6.out (row_kept HR8.out k))) hH ?_
   simp only [sA,sB,sC];refine heldTo_take_ex (i:=4) 49 rfl rfl (by kernel_rfl) (by kernel_rfl) (by kernel_rfl) (by kernel_rfl) (fun _ _ _ _ h=>h) (by kernel_rfl) hH ?_
   apply Exists.intro;apply And.intro
   ·intro w9 h9
    go_simp
    first | done | rfl
   simp only [sA,sB,sC];refine heldTo_take (i:=5) 50 (.agg pc) rfl rfl (by kernel_rfl) (by kernel_rfl) (by kernel_rfl) (by kernel_rfl) (fun _ _ _ h=>h) (yieldsIf_load_known (by kernel_rfl) 30 _ rfl (g0) (32) rfl (.agg pc) (fun x k=>HVQ.out x g0 (HB8.out.kept k))) hH ?_
   simp only [sA,sB,sC];refine heldTo_take (i:=6) 51 (.map (some ib)) rfl rfl (by kernel_rfl) (by kernel_rfl) (by kernel_rfl) (by kernel_rfl) (fun _ _ _ h=>h) (yieldsIf_lookup15 (by kernel_rfl) 47 _ _ false rfl (.map (some bb)) (.agg pc) rfl rfl (.map (some ib)) (fun x k=>HLL.out x k)) hH ?_
   simp only [sA,sB,sC];refine heldTo_take_ex (i:=7) 52 rfl rfl (by kernel_rfl) (by kernel_rfl) (by kernel_rfl) (by kernel_rfl) (fun _ _ _ _ h=>h) (by kernel_rfl) hH ?_
   apply Exists.intro;apply And.intro
   ·intro w9 h9
    go_simp
    first | done | rfl
   simp only [sA,sB,sC];refine heldTo_take (i:=8) 53 (.int .i64 vd) rfl rfl (by kernel_rfl) (by kernel_rfl) (by kernel_rfl) (by kernel_rfl) (fun _ _ _ h=>h) (yieldsIf_load_known (by kernel_rfl) 3 _ rfl (g0) (64) rfl (.int .i64 vd) (fun x k=>HVE.out x g0 (HB8.out.kept k))) hH ?_
   simp only [sA,sB,sC];refine heldTo_take (i:=9) 54 (.agg #[]) rfl rfl (by kernel_rfl) (by kernel_rfl) (by kernel_rfl) (by kernel_rfl) (fun _ _ _ h=>h) (yieldsIf_build0 (by kernel_rfl) 56 rfl (.agg #[]) (fun x=>build_unit15 x)) hH ?_
   simp only [sA,sB,sC];refine heldTo_last (by kernel_rfl) rfl (fun K hK=>?_)
   rw [if_pos (by rfl)]
   obtain⟨w9,hrun,hin9,ht9⟩:=HIP.out wd ib n (HI8.out.same (row_kept' hH HI8.out.lt)) (HNM.out);refine wp_update_run15 (.tmp 51) (.tmp 53) (.tmp 54) 55 rfl rfl (.map (some ib)) (.int .i64 vd) (.agg #[]) rfl rfl rfl hrun ?_
   have HR9:=hid ((turned_other ht9 (fun e=>HTN.out.1 e.symm)).trans (row_kept HR8.out hH))
   have HM9:=hid (HM8.out.same ((turned_other ht9 (fun e=>HTN.out.2.2 e.symm)).trans (row_kept' hH HM8.out.lt)))
   have HV9:=hid (HV8.out.same ((turned_other ht9 (fun e=>HTN.out.2.1 e.symm)).trans (row_kept' hH HV8.out.lt)))
   have HI9:=hid hin9;have HDF9:=hid (((HDF8.out ib).andKept hH).turned ht9 (.inl (.inr (.inr (.inr rfl)))));clear hin9 ht9 hrun;refine hK _ _ ?_;clear hK K;refine heldTo_done (by kernel_rfl) ?_ _
   refine NoPanic.normal ?_;clear hH;go_wp2
   go_end0
   exact HPD.out _ _ _ _ HR9.out HTP.out HV9.out (HM9.out.mono (Nat.le_succ n)) HGL.out.symm (fun _ _=>rfl) HI9.out HTN.out.2.1 HTN.out.2.2 (.inl HFI.out) HDF9.out
 | true=>
  cases ld with
  | true=>
   go_upto_region 2 with fail
   refine wp_region_lit ?_;iterate 3 (refine @wQ _ _ _ _ _ _ _ ?_ ?_;kernel_rfl;intro K hK;go_simp;refine hK _ _ ?_;clear hK K)
   refine @wpList_load_known _ _ _ _ _ _ _ ?_ 36 (.tmp 3) rfl (g0) (0) rfl (.agg VC) (HVA.out _ _ B4.out) ?_;kernel_rfl
   simp only [Act.put,sA,sB,sC];refine @wpList_load_known _ _ _ _ _ _ _ ?_ 36 (.tmp 4) rfl (g1) (0) rfl (.agg CC) (HUA.out _ _ U4.out) ?_;kernel_rfl
   simp only [Act.put,sA,sB,sC];refine @wQ _ _ _ _ _ _ _ ?_ ?_;kernel_rfl;intro K hK;go_simp;go_at_call 21
   refine(HLE.out _).mono ?_;rintro e w5 ⟨rfl,k5⟩;have K5:=hid k5;clear k5;refine hK _ _ ?_;clear hK K;refine @wQ _ _ _ _ _ _ _ ?_ ?_;kernel_rfl;intro K hK;go_simp;refine hK _ _ ?_;clear hK K;have KZ:=hid (K4.out.onto K5.out);have BZ:=hid (B4.out.kept K5.out);generalize w5 = wz at KZ BZ ⊢
   go_upto_region 3 with fail
   refine wp_region_lit ?_;iterate 2 (refine @wQ _ _ _ _ _ _ _ ?_ ?_;kernel_rfl;intro K hK;go_simp;refine hK _ _ ?_;clear hK K)
   refine @wpList_load_known _ _ _ _ _ _ _ ?_ 30 (.tmp 19) rfl (g0) (0) rfl (.agg ic) (HVI.out _ _ BZ.out) ?_;kernel_rfl
   simp only [Act.put,sA,sB,sC];iterate 2 (refine @wQ _ _ _ _ _ _ _ ?_ ?_;kernel_rfl;intro K hK;go_simp;refine hK _ _ ?_;clear hK K)
   have hrz:=row_kept HBK.out KZ.out;rw [HSC.out] at hrz;have hsz:=setCells15 (bcells v.id) [.int .i64 keep,.map (some vb)] (bcells hd) [.map (some bb)] wz HIC.out.1 hrz
   have hth:wz.there sb 2 ic.size:=fun j hj=>by
    rw [HIZ.out] at hj;have hl:([Value.int .i64 keep,Value.map (some vb)] ++ (bcells hd ++ [Value.map (some bb)])).length = 35:=by simp [bcells_length,HD32.out]
    exact⟨by rw [cells_at hrz (2 + j) (by rw [hl]; omega)]; rfl,cells_free hrz (2 + j)⟩
   refine wpList_store_mid rfl 30 _ _ rfl sb 2 ic rfl rfl hth (by rw [hashInfo15,HIZ.out]) HIA.out ?_
   simp only [Act.put];have hlist:ic.toList = bcells v.id:=by rw [HII.out]
   rw [hlist];have hR:=hsz.1;rw [← HSC.out] at hR;have hDF:∀ TB:Nat,Dfr (Tch sb vb bb TB) w (wz.setCells sb 2 (bcells v.id)):=fun TB=>(Dfr.of_kept KZ.out).same1 (.inl (.inl rfl)) hsz.2.1 hsz.2.2.1 hsz.2.2.2.1 hsz.2.2.2.2.1 hsz.2.2.2.2.2
   have hBV:Vb (wz.setCells sb 2 (bcells v.id)) g0 v:=(hsz.2.1 g0 (fun e=>by have:=HG0.out; have:=HSV.out.2.2.2.1; omega)).trans BZ.out
   have hVP:=HVP.out.same (w':=wz.setCells sb 2 (bcells v.id)) ((hsz.2.1 vb (fun e=>HSV.out.1 e.symm)).trans (row_kept' KZ.out HSV.out.2.2.2.2.1))
   have hMG:=HMG.out.same (w':=wz.setCells sb 2 (bcells v.id)) ((hsz.2.1 bb (fun e=>HSV.out.2.1 e.symm)).trans (row_kept' KZ.out HSV.out.2.2.2.2.2))
   have hHD:=HID.out;clear hrz hsz hth hlist;generalize wz.setCells sb 2 (bcells v.id) = w6 at hR hDF hBV hVP hMG ⊢;obtain⟨hx,hhx⟩:∃ x,x = v.id:=⟨_,rfl⟩;rw [← hhx] at hR hHD;have HTP:=hid (show hx = (Dg.newTop h v).id by rw [hhx]; exact HT2.out rfl rfl)
   clear hhx
   go_wp2_with fail
   have HR:=hid hR;have HDF:=hid (fun tb:Nat=>hDF tb)
   have HBV:=hid hBV;have HV6:=hid hVP;have HM6:=hid hMG;have HH6:=hid hHD;clear hR hDF hBV hVP hMG hHD
   go_upto_region 4 with fail
   refine wp_region_noPanic ?_;refine wp_region_heldTo 7 (S:=fun x=>Kept w6.heap.size w6.heap.size w6 x) (by kernel_rfl) ((Kept.refl w6.heap.size w6.heap.size w6).drew) (fun hH=>?_)
   obtain⟨wd,hwd⟩:∃ x,x = w6.drew:=⟨_,rfl⟩;rw [← hwd] at hH ⊢;clear hwd;refine heldTo_take_ex (i:=0) 23 rfl rfl (by kernel_rfl) (by kernel_rfl) (by kernel_rfl) (by kernel_rfl) (fun _ _ _ _ h=>h) (by kernel_rfl) hH ?_
   apply Exists.intro;apply And.intro
   ·intro w9 h9
    go_simp
    first | done | rfl
   simp only [sA,sB,sC];refine heldTo_take_ex (i:=1) 24 rfl rfl (by kernel_rfl) (by kernel_rfl) (by kernel_rfl) (by kernel_rfl) (fun _ _ _ _ h=>h) (by kernel_rfl) hH ?_
   apply Exists.intro;apply And.intro
   ·intro w9 h9
    go_simp
    first | done | rfl
   simp only [sA,sB,sC];refine heldTo_take_ex (i:=2) 25 rfl rfl (by kernel_rfl) (by kernel_rfl) (by kernel_rfl) (by kernel_rfl) (fun _ _ _ _ h=>h) (by kernel_rfl) hH ?_
   apply Exists.intro;apply And.intro
   ·intro w9 h9
    go_simp
    first | done | rfl
   simp only [sA,sB,sC];refine heldTo_take (i:=3) 26 (.map (some vb)) rfl rfl (by kernel_rfl) (by kernel_rfl) (by kernel_rfl) (by kernel_rfl) (fun _ _ _ h=>h) (yieldsIf_load_known (by kernel_rfl) 46 _ rfl (sb) (1) rfl (.map (some vb)) (fun x k=>HVM.out x hx (row_kept HR.out k))) hH ?_
   simp only [sA,sB,sC];refine heldTo_take_ex (i:=4) 27 rfl rfl (by kernel_rfl) (by kernel_rfl) (by kernel_rfl) (by kernel_rfl) (fun _ _ _ _ h=>h) (by kernel_rfl) hH ?_
   apply Exists.intro;apply And.intro
   ·intro w9 h9
    go_simp
    first | done | rfl
   simp only [sA,sB,sC];refine heldTo_take (i:=5) 28 (.agg ic) rfl rfl (by kernel_rfl) (by kernel_rfl) (by kernel_rfl) (by kernel_rfl) (fun _ _ _ h=>h) (yieldsIf_load_known (by kernel_rfl) 30 _ rfl (g0) (0) rfl (.agg ic) (fun x k=>HVI.out x g0 (HBV.out.kept k))) hH ?_
   simp only [sA,sB,sC];refine heldTo_take (i:=6) 29 (.agg VC) rfl rfl (by kernel_rfl) (by kernel_rfl) (by kernel_rfl) (by kernel_rfl) (fun _ _ _ h=>h) (yieldsIf_load_known (by kernel_rfl) 36 _ rfl (g0) (0) rfl (.agg VC) (fun x k=>HVA.out x g0 (HBV.out.kept k))) hH ?_
   simp only [sA,sB,sC];refine heldTo_last (by kernel_rfl) rfl (fun K hK=>?_)
   rw [if_pos (by rfl)]
   obtain⟨w7,hrun,hvp7,ht7⟩:=HUP.out wd vb n (HV6.out.same (row_kept' hH HV6.out.lt)) HNM.out;refine wp_update_run15 (.tmp 26) (.tmp 28) (.tmp 29) 46 rfl rfl (.map (some vb)) (.agg ic) (.agg VC) rfl rfl rfl hrun ?_
   have HR7:=hid ((turned_other ht7 HSV.out.1).trans (row_kept HR.out hH));have HB7:=hid (show Vb w7 g0 v from(turned_other ht7 (fun e=>by have:=HG0.out; have:=HSV.out.2.2.2.2.1; omega)).trans (HBV.out.kept hH))
   have HM7:=hid (HM6.out.same ((turned_other ht7 (fun e=>HSV.out.2.2.1 e.symm)).trans (row_kept' hH HM6.out.lt)))
   have HV7:=hid hvp7;have HDF7:=hid (fun tb:Nat=>((HDF.out tb).andKept hH).turned ht7 (.inl (.inr (.inl rfl))))
   clear hvp7 ht7 hrun;refine hK _ _ ?_;clear hK K;refine heldTo_done (by kernel_rfl) ?_ _
   refine NoPanic.normal ?_;clear hH;clear HR HBV HV6 HM6 HDF
   go_upto_region 5 with fail
   cases gl with
   | none=>
    have HLL:Hid (∀ x:World,Kept w7.heap.size w7.heap.size w7 x→(Instr.lookup 47 (.map (some bb)) (.agg pc) false).run Try.prog x = .ok (.map none) x):=hid (fun x k=>by
     have h9:=HLP.out x n G (HM7.out.same (row_kept' k HM7.out.lt));rw [← HGL.out] at h9
     exact h9)
    refine wp_region_noPanic ?_;refine wp_region_held_drew (S:=fun w'=>Kept w7.heap.size w7.heap.size w7 w') (by kernel_rfl) ((Kept.refl _ _ _).drew) (fun hH=>?_)
    obtain⟨wd,hwd⟩:∃ x,x = w7.drew:=⟨_,rfl⟩;rw [← hwd] at hH ⊢;clear hwd;refine wpAnyH_take_ex (i:=0) 30 rfl rfl (by kernel_rfl) (by kernel_rfl) (by kernel_rfl) (fun _ _ _ _ h=>h) (by kernel_rfl) hH ?_
    apply Exists.intro;apply And.intro
    ·intro w9 _
     go_simp
     first | done | rfl
    simp only [sA,sB,sC];refine wpAnyH_take_ex (i:=1) 31 rfl rfl (by kernel_rfl) (by kernel_rfl) (by kernel_rfl) (fun _ _ _ _ h=>h) (by kernel_rfl) hH ?_
    apply Exists.intro;apply And.intro
    ·intro w9 _
     go_simp
     first | done | rfl
    simp only [sA,sB,sC];refine wpAnyH_take_ex (i:=2) 32 rfl rfl (by kernel_rfl) (by kernel_rfl) (by kernel_rfl) (fun _ _ _ _ h=>h) (by kernel_rfl) hH ?_
    apply Exists.intro;apply And.intro
    ·intro w9 _
     go_simp
     first | done | rfl
    simp only [sA,sB,sC];refine wpAnyH_take_at (i:=3) 33 (.map (some bb)) rfl rfl (by kernel_rfl) (by kernel_rfl) (by kernel_rfl) (fun _ _ _ h=>h) (yieldsIf_load_known (by kernel_rfl) 47 _ rfl (sb) (34) rfl (.map (some bb)) (fun x k=>HBM.out x hx HH6.out (row_kept HR7.out k))) hH ?_
    simp only [sA,sB,sC];refine wpAnyH_take_ex (i:=4) 34 rfl rfl (by kernel_rfl) (by kernel_rfl) (by kernel_rfl) (fun _ _ _ _ h=>h) (by kernel_rfl) hH ?_
    apply Exists.intro;apply And.intro
    ·intro w9 _
     go_simp
     first | done | rfl
    simp only [sA,sB,sC];refine wpAnyH_take_at (i:=5) 35 (.agg pc) rfl rfl (by kernel_rfl) (by kernel_rfl) (by kernel_rfl) (fun _ _ _ h=>h) (yieldsIf_load_known (by kernel_rfl) 30 _ rfl (g0) (32) rfl (.agg pc) (fun x k=>HVQ.out x g0 (HB7.out.kept k))) hH ?_
    simp only [sA,sB,sC];refine wpAnyH_take_at (i:=6) 36 (.map none) rfl rfl (by kernel_rfl) (by kernel_rfl) (by kernel_rfl) (fun _ _ _ h=>h) (yieldsIf_lookup15 (by kernel_rfl) 47 _ _ false rfl (.map (some bb)) (.agg pc) rfl rfl (.map none) (fun x k=>HLL.out x k)) hH ?_
    simp only [sA,sB,sC];refine wpAnyH_take_ex (i:=7) 37 rfl rfl (by kernel_rfl) (by kernel_rfl) (by kernel_rfl) (fun _ _ _ _ h=>h) (by kernel_rfl) hH ?_
    apply Exists.intro;apply And.intro
    ·intro w9 _
     go_simp
     first | done | rfl
    simp only [sA,sB,sC];refine wpAnyH_done (by kernel_rfl) ?_ _
    refine NoPanic.normal ?_;have K8:=hid hH;clear hH;generalize wd = w8 at K8 ⊢;have HR8:=hid (row_kept HR7.out K8.out);have HB8:=hid (HB7.out.kept K8.out);have HM8:=hid (HM7.out.same (row_kept' K8.out HM7.out.lt));have HV8:=hid (HV7.out.same (row_kept' K8.out HV7.out.lt));have HDF8:=hid (fun tb:Nat=>(HDF7.out tb).andKept K8.out)
    clear HR7 HB7 HM7 HV7 HDF7 K8;clear HLL
    go_upto_region 6 with fail
    refine wp_region_noPanic ?_;refine wp_region_heldTo 7 (S:=fun x=>Kept w8.heap.size w8.heap.size w8 x) (by kernel_rfl) ((Kept.refl w8.heap.size w8.heap.size w8).drew) (fun hH=>?_)
    obtain⟨wd,hwd⟩:∃ x,x = w8.drew:=⟨_,rfl⟩;rw [← hwd] at hH ⊢;clear hwd;refine heldTo_take_ex (i:=0) 38 rfl rfl (by kernel_rfl) (by kernel_rfl) (by kernel_rfl) (by kernel_rfl) (fun _ _ _ _ h=>h) (by kernel_rfl) hH ?_
    apply Exists.intro;apply And.intro
    ·intro w9 h9
     go_simp
     first | done | rfl
    simp only [sA,sB,sC];refine heldTo_take_ex (i:=1) 39 rfl rfl (by kernel_rfl) (by kernel_rfl) (by kernel_rfl) (by kernel_rfl) (fun _ _ _ _ h=>h) (by kernel_rfl) hH ?_
    apply Exists.intro;apply And.intro
    ·intro w9 h9
     go_simp
     first | done | rfl
    simp only [sA,sB,sC];refine heldTo_take_ex (i:=2) 40 rfl rfl (by kernel_rfl) (by kernel_rfl) (by kernel_rfl) (by kernel_rfl) (fun _ _ _ _ h=>h) (by kernel_rfl) hH ?_
    apply Exists.intro;apply And.intro
    ·intro w9 h9
     go_simp
     first | done | rfl
    simp only [sA,sB,sC];refine heldTo_take (i:=3) 41 (.map (some bb)) rfl rfl (by kernel_rfl) (by kernel_rfl) (by kernel_rfl) (by kernel_rfl) (fun _ _ _ h=>h) (yieldsIf_load_known (by kernel_rfl) 47 _ rfl (sb) (34) rfl (.map (some bb)) (fun x k=>HBM.out x hx HH6.out (row_kept HR8.out k))) hH ?_
    simp only [sA,sB,sC];refine heldTo_take_ex (i:=4) 42 rfl rfl (by kernel_rfl) (by kernel_rfl) (by kernel_rfl) (by kernel_rfl) (fun _ _ _ _ h=>h) (by kernel_rfl) hH ?_
    apply Exists.intro;apply And.intro
    ·intro w9 h9
     go_simp
     first | done | rfl
    simp only [sA,sB,sC];refine heldTo_take (i:=5) 43 (.agg pc) rfl rfl (by kernel_rfl) (by kernel_rfl) (by kernel_rfl) (by kernel_rfl) (fun _ _ _ h=>h) (yieldsIf_load_known (by kernel_rfl) 30 _ rfl (g0) (32) rfl (.agg pc) (fun x k=>HVQ.out x g0 (HB8.out.kept k))) hH ?_
    simp only [sA,sB,sC];refine heldTo_one (i:=6) (by kernel_rfl) rfl (fun K hK=>?_)
    rw [if_pos (by rfl)]
    have er:=makeIn15 wd;have ho:=In15.made wd;have ka:=hH.onto (kA wd (.map #[] 0));obtain⟨nb,hnb⟩:∃ x,x = wd.heap.size:=⟨_,rfl⟩;have HNB:=hid (show w8.heap.size≤nb by rw [hnb]; exact hH.size)
    rw [← hnb] at er ho;generalize wd.alloc (.map #[] 0) = wa at er ho ka ⊢;refine wp_makeMap15 55 rfl (some 44) rfl _ er ?_
    simp only [Act.put,sA,sB,sC];have Kwa:=hid ka;have HIA9:=hid ho;clear er ho ka hnb;refine hK.out _ _ Kwa.out (fun hH=>?_)
    clear hK K;refine heldTo_last (by kernel_rfl) rfl (fun K hK=>?_)
    rw [if_pos (by rfl)]
    obtain⟨wb,hrun,hmb,hgb,hzb⟩:=HST.out wa n G (HM8.out.same (row_kept' Kwa.out HM8.out.lt)) HNM.out (.map (some nb));refine wp_update_run15 (.tmp 41) (.tmp 43) (.tmp 44) 47 rfl rfl (.map (some bb)) (.agg pc) (.map (some nb)) rfl rfl rfl hrun ?_
    have hob:=fun(k:Nat) (h1:k < wa.heap.size) (h2:k≠bb)=>hgb.block k h1 (fun e=>h2 (Option.some.inj e))
    have hw8:w.heap.size≤w8.heap.size:=(HDF8.out 0).size;have HRb:=hid ((hob sb (lt_of_block (row_kept HR8.out Kwa.out)) HSV.out.2.1).trans (row_kept HR8.out Kwa.out));have HBb:=hid (show Vb wb g0 v from(hob g0 (lt_of_block (HB8.out.kept Kwa.out)) (fun e=>by have:=HG0.out; have:=HSV.out.2.2.2.2.2; omega)).trans (HB8.out.kept Kwa.out))
    have HMb:=hid hmb;have HVb:=hid (HV8.out.same ((hob vb (Nat.lt_of_lt_of_le HV8.out.lt Kwa.out.size) HSV.out.2.2.1).trans (row_kept' Kwa.out HV8.out.lt)));have HIb:=hid (HIA9.out.same (hob nb HIA9.out.lt (fun e=>by have:=HNB.out; have:=HSV.out.2.2.2.2.2; omega)))
    have HDFb:=hid (((HDF8.out nb).andKept Kwa.out).same1 (.inl (.inr (.inr (.inl rfl)))) (fun k hk=>by
     rcases Nat.lt_or_ge k wa.heap.size with h1 | h1
     ·exact hob k h1 hk
     ·rw [Array.getElem?_eq_none (by rw [hzb]; exact h1),Array.getElem?_eq_none h1]) hzb hgb.os hgb.tape hgb.output)
    have HTN:=hid (show nb≠sb∧nb≠vb∧nb≠bb from⟨fun e=>by have:=HNB.out; have:=HSV.out.2.2.2.1; omega,fun e=>by have:=HNB.out; have:=HSV.out.2.2.2.2.1; omega,fun e=>by have:=HNB.out; have:=HSV.out.2.2.2.2.2; omega⟩)
    have HNW:=hid (show w.heap.size≤nb from Nat.le_trans hw8 HNB.out);clear hob hw8 hmb hgb hzb hrun;refine hK _ _ ?_;clear hK K;refine heldTo_done (by kernel_rfl) ?_ _
    refine NoPanic.normal ?_;clear hH
    have HLL:Hid (∀ x:World,Kept wb.heap.size wb.heap.size wb x→(Instr.lookup 47 (.map (some bb)) (.agg pc) false).run Try.prog x = .ok (.map (some nb)) x):=hid (fun x k=>by
     have h9:=HLP.out x (n + 1) _ (HMb.out.same (row_kept' k HMb.out.lt));rw [upd_same] at h9
     exact h9)
    go_upto_region 7 with fail
    refine wp_region_noPanic ?_;refine wp_region_heldTo 10 (S:=fun x=>Kept wb.heap.size wb.heap.size wb x) (by kernel_rfl) ((Kept.refl wb.heap.size wb.heap.size wb).drew) (fun hH=>?_)
    obtain⟨wd,hwd⟩:∃ x,x = wb.drew:=⟨_,rfl⟩;rw [← hwd] at hH ⊢;clear hwd;refine heldTo_take_ex (i:=0) 45 rfl rfl (by kernel_rfl) (by kernel_rfl) (by kernel_rfl) (by kernel_rfl) (fun _ _ _ _ h=>h) (by kernel_rfl) hH ?_
    apply Exists.intro;apply And.intro
    ·intro w9 h9
     go_simp
     first | done | rfl
    simp only [sA,sB,sC];refine heldTo_take_ex (i:=1) 46 rfl rfl (by kernel_rfl) (by kernel_rfl) (by kernel_rfl) (by kernel_rfl) (fun _ _ _ _ h=>h) (by kernel_rfl) hH ?_
    apply Exists.intro;apply And.intro
    ·intro w9 h9
     go_simp
     first | done | rfl
    simp only [sA,sB,sC];refine heldTo_take_ex (i:=2) 47 rfl rfl (by kernel_rfl) (by kernel_rfl) (by kernel_rfl) (by kernel_rfl) (fun _ _ _ _ h=>h) (by kernel_rfl) hH ?_
    apply Exists.intro;apply And.intro
    ·intro w9 h9
     go_simp
     first | done | rfl
    simp only [sA,sB,sC];refine heldTo_take (i:=3) 48 (.map (some bb)) rfl rfl (by kernel_rfl) (by kernel_rfl) (by kernel_rfl) (by kernel_rfl) (fun _ _ _ h=>h) (yieldsIf_load_known (by kernel_rfl) 47 _ rfl (sb) (34) rfl (.map (some bb)) (fun x k=>HBM.out x hx HH6.out (row_kept HRb.out k))) hH ?_
    simp only [sA,sB,sC];refine heldTo_take_ex (i:=4) 49 rfl rfl (by kernel_rfl) (by kernel_rfl) (by kernel_rfl) (by kernel_rfl) (fun _ _ _ _ h=>h) (by kernel_rfl) hH ?_
    apply Exists.intro;apply And.intro
    ·intro w9 h9
     go_simp
     first | done | rfl
    simp only [sA,sB,sC];refine heldTo_take (i:=5) 50 (.agg pc) rfl rfl (by kernel_rfl) (by kernel_rfl) (by kernel_rfl) (by kernel_rfl) (fun _ _ _ h=>h) (yieldsIf_load_known (by kernel_rfl) 30 _ rfl (g0) (32) rfl (.agg pc) (fun x k=>HVQ.out x g0 (HBb.out.kept k))) hH ?_
    simp only [sA,sB,sC];refine heldTo_take (i:=6) 51 (.map (some nb)) rfl rfl (by kernel_rfl) (by kernel_rfl) (by kernel_rfl) (by kernel_rfl) (fun _ _ _ h=>h) (yieldsIf_lookup15 (by kernel_rfl) 47 _ _ false rfl (.map (some bb)) (.agg pc) rfl rfl (.map (some nb)) (fun x k=>HLL.out x k)) hH ?_
    simp only [sA,sB,sC];refine heldTo_take_ex (i:=7) 52 rfl rfl (by kernel_rfl) (by kernel_rfl) (by kernel_rfl) (by kernel_rfl) (fun _ _ _ _ h=>h) (by kernel_rfl) hH ?_
    apply Exists.intro;apply And.intro
    ·intro w9 h9
     go_simp
     first | done | rfl
    simp only [sA,sB,sC];refine heldTo_take (i:=8) 53 (.int .i64 vd) rfl rfl (by kernel_rfl) (by kernel_rfl) (by kernel_rfl) (by kernel_rfl) (fun _ _ _ h=>h) (yieldsIf_load_known (by kernel_rfl) 3 _ rfl (g0) (64) rfl (.int .i64 vd) (fun x k=>HVE.out x g0 (HBb.out.kept k))) hH ?_
    simp only [sA,sB,sC];refine heldTo_take (i:=9) 54 (.agg #[]) rfl rfl (by kernel_rfl) (by kernel_rfl) (by kernel_rfl) (by kernel_rfl) (fun _ _ _ h=>h) (yieldsIf_build0 (by kernel_rfl) 56 rfl (.agg #[]) (fun x=>build_unit15 x)) hH ?_
    simp only [sA,sB,sC];refine heldTo_last (by kernel_rfl) rfl (fun K hK=>?_)
    rw [if_pos (by rfl)]
    obtain⟨w9,hrun,hin9,ht9⟩:=HIP.out wd nb 0 (HIb.out.same (row_kept' hH HIb.out.lt)) (Nat.lt_of_le_of_lt (Nat.zero_le _) HNM.out);refine wp_update_run15 (.tmp 51) (.tmp 53) (.tmp 54) 55 rfl rfl (.map (some nb)) (.int .i64 vd) (.agg #[]) rfl rfl rfl hrun ?_
    have HR9:=hid ((turned_other ht9 (fun e=>HTN.out.1 e.symm)).trans (row_kept HRb.out hH))
    have HM9:=hid (HMb.out.same ((turned_other ht9 (fun e=>HTN.out.2.2 e.symm)).trans (row_kept' hH HMb.out.lt)))
    have HV9:=hid (HVb.out.same ((turned_other ht9 (fun e=>HTN.out.2.1 e.symm)).trans (row_kept' hH HVb.out.lt)))
    have HI9:=hid hin9;have HDF9:=hid (((HDFb.out).andKept hH).turned ht9 (.inl (.inr (.inr (.inr rfl)))));clear hin9 ht9 hrun;refine hK _ _ ?_;clear hK K;refine heldTo_done (by kernel_rfl) ?_ _
    refine NoPanic.normal ?_;clear hH;go_wp2
    go_end0
    exact HPD.out _ _ _ _ HR9.out HTP.out HV9.out HM9.out (upd_same _ _ _) (fun l hl=>upd_other _ _ hl) (HI9.out.mono (by omega)) HTN.out.2.1 HTN.out.2.2 (.inr HNW.out) HDF9.out
   | some y=>
    obtain⟨ib,rfl,fib,lib,nvb,nbb,nsb,hib⟩:=HGI.out y rfl
    have HLL:Hid (∀ x:World,Kept w7.heap.size w7.heap.size w7 x→(Instr.lookup 47 (.map (some bb)) (.agg pc) false).run Try.prog x = .ok (.map (some ib)) x):=hid (fun x k=>by
     have h9:=HLP.out x n G (HM7.out.same (row_kept' k HM7.out.lt));rw [← HGL.out] at h9
     exact h9)
    have HTN:=hid (show ib≠sb∧ib≠vb∧ib≠bb from⟨nsb,nvb,nbb⟩);have HFI:=hid fib
    have HI7:=hid (hib.same ((HDF7.out bb).block ib lib (show ¬ Tch sb vb bb bb ib from fun h=>by
     rcases h with h | h | h | h
     ·exact nsb h
     ·exact nvb h
     ·exact nbb h
     ·exact nbb h)))
    clear fib lib nvb nbb nsb hib;refine wp_region_noPanic ?_;refine wp_region_held_drew (S:=fun w'=>Kept w7.heap.size w7.heap.size w7 w') (by kernel_rfl) ((Kept.refl _ _ _).drew) (fun hH=>?_)
    obtain⟨wd,hwd⟩:∃ x,x = w7.drew:=⟨_,rfl⟩;rw [← hwd] at hH ⊢;clear hwd;refine wpAnyH_take_ex (i:=0) 30 rfl rfl (by kernel_rfl) (by kernel_rfl) (by kernel_rfl) (fun _ _ _ _ h=>h) (by kernel_rfl) hH ?_
    apply Exists.intro;apply And.intro
    ·intro w9 _
     go_simp
     first | done | rfl
    simp only [sA,sB,sC];refine wpAnyH_take_ex (i:=1) 31 rfl rfl (by kernel_rfl) (by kernel_rfl) (by kernel_rfl) (fun _ _ _ _ h=>h) (by kernel_rfl) hH ?_
    apply Exists.intro;apply And.intro
    ·intro w9 _
     go_simp
     first | done | rfl
    simp only [sA,sB,sC];refine wpAnyH_take_ex (i:=2) 32 rfl rfl (by kernel_rfl) (by kernel_rfl) (by kernel_rfl) (fun _ _ _ _ h=>h) (by kernel_rfl) hH ?_
    apply Exists.intro;apply And.intro
    ·intro w9 _
     go_simp
     first | done | rfl
    simp only [sA,sB,sC];refine wpAnyH_take_at (i:=3) 33 (.map (some bb)) rfl rfl (by kernel_rfl) (by kernel_rfl) (by kernel_rfl) (fun _ _ _ h=>h) (yieldsIf_load_known (by kernel_rfl) 47 _ rfl (sb) (34) rfl (.map (some bb)) (fun x k=>HBM.out x hx HH6.out (row_kept HR7.out k))) hH ?_
    simp only [sA,sB,sC];refine wpAnyH_take_ex (i:=4) 34 rfl rfl (by kernel_rfl) (by kernel_rfl) (by kernel_rfl) (fun _ _ _ _ h=>h) (by kernel_rfl) hH ?_
    apply Exists.intro;apply And.intro
    ·intro w9 _
     go_simp
     first | done | rfl
    simp only [sA,sB,sC];refine wpAnyH_take_at (i:=5) 35 (.agg pc) rfl rfl (by kernel_rfl) (by kernel_rfl) (by kernel_rfl) (fun _ _ _ h=>h) (yieldsIf_load_known (by kernel_rfl) 30 _ rfl (g0) (32) rfl (.agg pc) (fun x k=>HVQ.out x g0 (HB7.out.kept k))) hH ?_
    simp only [sA,sB,sC];refine wpAnyH_take_at (i:=6) 36 (.map (some ib)) rfl rfl (by kernel_rfl) (by kernel_rfl) (by kernel_rfl) (fun _ _ _ h=>h) (yieldsIf_lookup15 (by kernel_rfl) 47 _ _ false rfl (.map (some bb)) (.agg pc) rfl rfl (.map (some ib)) (fun x k=>HLL.out x k)) hH ?_
    simp only [sA,sB,sC];refine wpAnyH_take_ex (i:=7) 37 rfl rfl (by kernel_rfl) (by kernel_rfl) (by kernel_rfl) (fun _ _ _ _ h=>h) (by kernel_rfl) hH ?_
    apply Exists.intro;apply And.intro
    ·intro w9 _
     go_simp
     first | done | rfl
    simp only [sA,sB,sC];refine wpAnyH_done (by kernel_rfl) ?_ _
    refine NoPanic.normal ?_;have K8:=hid hH;clear hH;generalize wd = w8 at K8 ⊢;have HR8:=hid (row_kept HR7.out K8.out);have HB8:=hid (HB7.out.kept K8.out);have HM8:=hid (HM7.out.same (row_kept' K8.out HM7.out.lt));have HV8:=hid (HV7.out.same (row_kept' K8.out HV7.out.lt));have HDF8:=hid (fun tb:Nat=>(HDF7.out tb).andKept K8.out)
    have HI8:=hid (HI7.out.same (row_kept' K8.out HI7.out.lt));clear HI7 HR7 HB7 HM7 HV7 HDF7 K8;clear HLL
    have HLL:Hid (∀ x:World,Kept w8.heap.size w8.heap.size w8 x→(Instr.lookup 47 (.map (some bb)) (.agg pc) false).run Try.prog x = .ok (.map (some ib)) x):=hid (fun x k=>by
     have h9:=HLP.out x n G (HM8.out.same (row_kept' k HM8.out.lt));rw [← HGL.out] at h9
     exact h9)
    go_upto_region 7 with fail
    refine wp_region_noPanic ?_;refine wp_region_heldTo 10 (S:=fun x=>Kept w8.heap.size w8.heap.size w8 x) (by kernel_rfl) ((Kept.refl w8.heap.size w8.heap.size w8).drew) (fun hH=>?_)
    obtain⟨wd,hwd⟩:∃ x,x = w8.drew:=⟨_,rfl⟩;rw [← hwd] at hH ⊢;clear hwd;refine heldTo_take_ex (i:=0) 45 rfl rfl (by kernel_rfl) (by kernel_rfl) (by kernel_rfl) (by kernel_rfl) (fun _ _ _ _ h=>h) (by kernel_rfl) hH ?_
    apply Exists.intro;apply And.intro
    ·intro w9 h9
     go_simp
     first | done | rfl
    simp only [sA,sB,sC];refine heldTo_take_ex (i:=1) 46 rfl rfl (by kernel_rfl) (by kernel_rfl) (by kernel_rfl) (by kernel_rfl) (fun _ _ _ _ h=>h) (by kernel_rfl) hH ?_
    apply Exists.intro;apply And.intro
    ·intro w9 h9
     go_simp
     first | done | rfl
    simp only [sA,sB,sC];refine heldTo_take_ex (i:=2) 47 rfl rfl (by kernel_rfl) (by kernel_rfl) (by kernel_rfl) (by kernel_rfl) (fun _ _ _ _ h=>h) (by kernel_rfl) hH ?_
    apply Exists.intro;apply And.intro
    ·intro w9 h9
     go_simp
     first | done | rfl
    simp only [sA,sB,sC];refine heldTo_take (i:=3) 48 (.map (some bb)) rfl rfl (by kernel_rfl) (by kernel_rfl) (by kernel_rfl) (by kernel_rfl) (fun _ _ _ h=>h) (yieldsIf_load_known (by kernel_rfl) 47 _ rfl (sb) (34) rfl (.map (some bb)) (fun x k=>HBM.out x hx HH6.out (row_kept HR8.out k))) hH ?_
    simp only [sA,sB,sC];refine heldTo_take_ex (i:=4) 49 rfl rfl (by kernel_rfl) (by kernel_rfl) (by kernel_rfl) (by kernel_rfl) (fun _ _ _ _ h=>h) (by kernel_rfl) hH ?_
    apply Exists.intro;apply And.intro
    ·intro w9 h9
     go_simp
     first | done | rfl
    simp only [sA,sB,sC];refine heldTo_take (i:=5) 50 (.agg pc) rfl rfl (by kernel_rfl) (by kernel_rfl) (by kernel_rfl) (by kernel_rfl) (fun _ _ _ h=>h) (yieldsIf_load_known (by kernel_rfl) 30 _ rfl (g0) (32) rfl (.agg pc) (fun x k=>HVQ.out x g0 (HB8.out.kept k))) hH ?_
    simp only [sA,sB,sC];refine heldTo_take (i:=6) 51 (.map (some ib)) rfl rfl (by kernel_rfl) (by kernel_rfl) (by kernel_rfl) (by kernel_rfl) (fun _ _ _ h=>h) (yieldsIf_lookup15 (by kernel_rfl) 47 _ _ false rfl (.map (some bb)) (.agg pc) rfl rfl (.map (some ib)) (fun x k=>HLL.out x k)) hH ?_
    simp only [sA,sB,sC];refine heldTo_take_ex (i:=7) 52 rfl rfl (by kernel_rfl) (by kernel_rfl) (by kernel_rfl) (by kernel_rfl) (fun _ _ _ _ h=>h) (by kernel_rfl) hH ?_
    apply Exists.intro;apply And.intro
    ·intro w9 h9
     go_simp
     first | done | rfl
    simp only [sA,sB,sC];refine heldTo_take (i:=8) 53 (.int .i64 vd) rfl rfl (by kernel_rfl) (by kernel_rfl) (by kernel_rfl) (by kernel_rfl) (fun _ _ _ h=>h) (yieldsIf_load_known (by kernel_rfl) 3 _ rfl (g0) (64) rfl (.int .i64 vd) (fun x k=>HVE.out x g0 (HB8.out.kept k))) hH ?_
    simp only [sA,sB,sC];refine heldTo_take (i:=9) 54 (.agg #[]) rfl rfl (by kernel_rfl) (by kernel_rfl) (by kernel_rfl) (by kernel_rfl) (fun _ _ _ h=>h) (yieldsIf_build0 (by kernel_rfl) 56 rfl (.agg #[]) (fun x=>build_unit15 x)) hH ?_
    simp only [sA,sB,sC];refine heldTo_last (by kernel_rfl) rfl (fun K hK=>?_)
    rw [if_pos (by rfl)]
    obtain⟨w9,hrun,hin9,ht9⟩:=HIP.out wd ib n (HI8.out.same (row_kept' hH HI8.out.lt)) (HNM.out);refine wp_update_run15 (.tmp 51) (.tmp 53) (.tmp 54) 55 rfl rfl (.map (some ib)) (.int .i64 vd) (.agg #[]) rfl rfl rfl hrun ?_
    have HR9:=hid ((turned_other ht9 (fun e=>HTN.out.1 e.symm)).trans (row_kept HR8.out hH))
    have HM9:=hid (HM8.out.same ((turned_other ht9 (fun e=>HTN.out.2.2 e.symm)).trans (row_kept' hH HM8.out.lt)))
    have HV9:=hid (HV8.out.same ((turned_other ht9 (fun e=>HTN.out.2.1 e.symm)).trans (row_kept' hH HV8.out.lt)))
    have HI9:=hid hin9;have HDF9:=hid (((HDF8.out ib).andKept hH).turned ht9 (.inl (.inr (.inr (.inr rfl)))));clear hin9 ht9 hrun;refine hK _ _ ?_;clear hK K;refine heldTo_done (by kernel_rfl) ?_ _
    refine NoPanic.normal ?_;clear hH;go_wp2
    go_end0
    exact HPD.out _ _ _ _ HR9.out HTP.out HV9.out (HM9.out.mono (Nat.le_succ n)) HGL.out.symm (fun _ _=>rfl) HI9.out HTN.out.2.1 HTN.out.2.2 (.inl HFI.out) HDF9.out
  | false=>
   go_upto_region 2 with fail
   refine wp_region_lit ?_;iterate 3 (refine @wQ _ _ _ _ _ _ _ ?_ ?_;kernel_rfl;intro K hK;go_simp;refine hK _ _ ?_;clear hK K)
   refine @wpList_load_known _ _ _ _ _ _ _ ?_ 36 (.tmp 3) rfl (g0) (0) rfl (.agg VC) (HVA.out _ _ B4.out) ?_;kernel_rfl
   simp only [Act.put,sA,sB,sC];refine @wpList_load_known _ _ _ _ _ _ _ ?_ 36 (.tmp 4) rfl (g1) (0) rfl (.agg CC) (HUA.out _ _ U4.out) ?_;kernel_rfl
   simp only [Act.put,sA,sB,sC];refine @wQ _ _ _ _ _ _ _ ?_ ?_;kernel_rfl;intro K hK;go_simp;go_at_call 21
   refine(HLE.out _).mono ?_;rintro e w5 ⟨rfl,k5⟩;have K5:=hid k5;clear k5;refine hK _ _ ?_;clear hK K;refine @wQ _ _ _ _ _ _ _ ?_ ?_;kernel_rfl;intro K hK;go_simp;refine hK _ _ ?_;clear hK K;have KZ:=hid (K4.out.onto K5.out);have BZ:=hid (B4.out.kept K5.out);generalize w5 = wz at KZ BZ ⊢;have hR:=row_kept HBK.out KZ.out;have hDF:∀ TB:Nat,Dfr (Tch sb vb bb TB) w wz:=fun TB=>Dfr.of_kept KZ.out
   have hBV:=BZ.out;have hVP:=HVP.out.same (w':=wz) (row_kept' KZ.out HSV.out.2.2.2.2.1);have hMG:=HMG.out.same (w':=wz) (row_kept' KZ.out HSV.out.2.2.2.2.2);have hHD:=HD32.out;generalize wz = w6 at hR hDF hBV hVP hMG ⊢;obtain⟨hx,hhx⟩:∃ x,x = hd:=⟨_,rfl⟩;rw [← hhx] at hR hHD;have HTP:=hid (show hx = (Dg.newTop h v).id by rw [hhx]; exact HT3.out rfl rfl)
   clear hhx;have HR:=hid hR;have HDF:=hid (fun tb:Nat=>hDF tb)
   have HBV:=hid hBV;have HV6:=hid hVP;have HM6:=hid hMG;have HH6:=hid hHD;clear hR hDF hBV hVP hMG hHD
   go_upto_region 4 with fail
   refine wp_region_noPanic ?_;refine wp_region_heldTo 7 (S:=fun x=>Kept w6.heap.size w6.heap.size w6 x) (by kernel_rfl) ((Kept.refl w6.heap.size w6.heap.size w6).drew) (fun hH=>?_)
   obtain⟨wd,hwd⟩:∃ x,x = w6.drew:=⟨_,rfl⟩;rw [← hwd] at hH ⊢;clear hwd;refine heldTo_take_ex (i:=0) 23 rfl rfl (by kernel_rfl) (by kernel_rfl) (by kernel_rfl) (by kernel_rfl) (fun _ _ _ _ h=>h) (by kernel_rfl) hH ?_
   apply Exists.intro;apply And.intro
   ·intro w9 h9
    go_simp
    first | done | rfl
   simp only [sA,sB,sC];refine heldTo_take_ex (i:=1) 24 rfl rfl (by kernel_rfl) (by kernel_rfl) (by kernel_rfl) (by kernel_rfl) (fun _ _ _ _ h=>h) (by kernel_rfl) hH ?_
   apply Exists.intro;apply And.intro
   ·intro w9 h9
    go_simp
    first | done | rfl
   simp only [sA,sB,sC];refine heldTo_take_ex (i:=2) 25 rfl rfl (by kernel_rfl) (by kernel_rfl) (by kernel_rfl) (by kernel_rfl) (fun _ _ _ _ h=>h) (by kernel_rfl) hH ?_
   apply Exists.intro;apply And.intro
   ·intro w9 h9
    go_simp
    first | done | rfl
   simp only [sA,sB,sC];refine heldTo_take (i:=3) 26 (.map (some vb)) rfl rfl (by kernel_rfl) (by kernel_rfl) (by kernel_rfl) (by kernel_rfl) (fun _ _ _ h=>h) (yieldsIf_load_known (by kernel_rfl) 46 _ rfl (sb) (1) rfl (.map (some vb)) (fun x k=>HVM.out x hx (row_kept HR.out k))) hH ?_
   simp only [sA,sB,sC];refine heldTo_take_ex (i:=4) 27 rfl rfl (by kernel_rfl) (by kernel_rfl) (by kernel_rfl) (by kernel_rfl) (fun _ _ _ _ h=>h) (by kernel_rfl) hH ?_
   apply Exists.intro;apply And.intro
   ·intro w9 h9
    go_simp
    first | done | rfl
   simp only [sA,sB,sC];refine heldTo_take (i:=5) 28 (.agg ic) rfl rfl (by kernel_rfl) (by kernel_rfl) (by kernel_rfl) (by kernel_rfl) (fun _ _ _ h=>h) (yieldsIf_load_known (by kernel_rfl) 30 _ rfl (g0) (0) rfl (.agg ic) (fun x k=>HVI.out x g0 (HBV.out.kept k))) hH ?_
   simp only [sA,sB,sC];refine heldTo_take (i:=6) 29 (.agg VC) rfl rfl (by kernel_rfl) (by kernel_rfl) (by kernel_rfl) (by kernel_rfl) (fun _ _ _ h=>h) (yieldsIf_load_known (by kernel_rfl) 36 _ rfl (g0) (0) rfl (.agg VC) (fun x k=>HVA.out x g0 (HBV.out.kept k))) hH ?_
   simp only [sA,sB,sC];refine heldTo_last (by kernel_rfl) rfl (fun K hK=>?_)
   rw [if_pos (by rfl)]
   obtain⟨w7,hrun,hvp7,ht7⟩:=HUP.out wd vb n (HV6.out.same (row_kept' hH HV6.out.lt)) HNM.out;refine wp_update_run15 (.tmp 26) (.tmp 28) (.tmp 29) 46 rfl rfl (.map (some vb)) (.agg ic) (.agg VC) rfl rfl rfl hrun ?_
   have HR7:=hid ((turned_other ht7 HSV.out.1).trans (row_kept HR.out hH));have HB7:=hid (show Vb w7 g0 v from(turned_other ht7 (fun e=>by have:=HG0.out; have:=HSV.out.2.2.2.2.1; omega)).trans (HBV.out.kept hH))
   have HM7:=hid (HM6.out.same ((turned_other ht7 (fun e=>HSV.out.2.2.1 e.symm)).trans (row_kept' hH HM6.out.lt)))
   have HV7:=hid hvp7;have HDF7:=hid (fun tb:Nat=>((HDF.out tb).andKept hH).turned ht7 (.inl (.inr (.inl rfl))))
   clear hvp7 ht7 hrun;refine hK _ _ ?_;clear hK K;refine heldTo_done (by kernel_rfl) ?_ _
   refine NoPanic.normal ?_;clear hH;clear HR HBV HV6 HM6 HDF
   go_upto_region 5 with fail
   cases gl with
   | none=>
    have HLL:Hid (∀ x:World,Kept w7.heap.size w7.heap.size w7 x→(Instr.lookup 47 (.map (some bb)) (.agg pc) false).run Try.prog x = .ok (.map none) x):=hid (fun x k=>by
     have h9:=HLP.out x n G (HM7.out.same (row_kept' k HM7.out.lt));rw [← HGL.out] at h9
     exact h9)
    refine wp_region_noPanic ?_;refine wp_region_held_drew (S:=fun w'=>Kept w7.heap.size w7.heap.size w7 w') (by kernel_rfl) ((Kept.refl _ _ _).drew) (fun hH=>?_)
    obtain⟨wd,hwd⟩:∃ x,x = w7.drew:=⟨_,rfl⟩;rw [← hwd] at hH ⊢;clear hwd;refine wpAnyH_take_ex (i:=0) 30 rfl rfl (by kernel_rfl) (by kernel_rfl) (by kernel_rfl) (fun _ _ _ _ h=>h) (by kernel_rfl) hH ?_
    apply Exists.intro;apply And.intro
    ·intro w9 _
     go_simp
     first | done | rfl
    simp only [sA,sB,sC];refine wpAnyH_take_ex (i:=1) 31 rfl rfl (by kernel_rfl) (by kernel_rfl) (by kernel_rfl) (fun _ _ _ _ h=>h) (by kernel_rfl) hH ?_
    apply Exists.intro;apply And.intro
    ·intro w9 _
     go_simp
     first | done | rfl
    simp only [sA,sB,sC];refine wpAnyH_take_ex (i:=2) 32 rfl rfl (by kernel_rfl) (by kernel_rfl) (by kernel_rfl) (fun _ _ _ _ h=>h) (by kernel_rfl) hH ?_
    apply Exists.intro;apply And.intro
    ·intro w9 _
     go_simp
     first | done | rfl
    simp only [sA,sB,sC];refine wpAnyH_take_at (i:=3) 33 (.map (some bb)) rfl rfl (by kernel_rfl) (by kernel_rfl) (by kernel_rfl) (fun _ _ _ h=>h) (yieldsIf_load_known (by kernel_rfl) 47 _ rfl (sb) (34) rfl (.map (some bb)) (fun x k=>HBM.out x hx HH6.out (row_kept HR7.out k))) hH ?_
    simp only [sA,sB,sC];refine wpAnyH_take_ex (i:=4) 34 rfl rfl (by kernel_rfl) (by kernel_rfl) (by kernel_rfl) (fun _ _ _ _ h=>h) (by kernel_rfl) hH ?_
    apply Exists.intro;apply And.intro
    ·intro w9 _
     go_simp
     first | done | rfl
    simp only [sA,sB,sC];refine wpAnyH_take_at (i:=5) 35 (.agg pc) rfl rfl (by kernel_rfl) (by kernel_rfl) (by kernel_rfl) (fun _ _ _ h=>h) (yieldsIf_load_known (by kernel_rfl) 30 _ rfl (g0) (32) rfl (.agg pc) (fun x k=>HVQ.out x g0 (HB7.out.kept k))) hH ?_
    simp only [sA,sB,sC];refine wpAnyH_take_at (i:=6) 36 (.map none) rfl rfl (by kernel_rfl) (by kernel_rfl) (by kernel_rfl) (fun _ _ _ h=>h) (yieldsIf_lookup15 (by kernel_rfl) 47 _ _ false rfl (.map (some bb)) (.agg pc) rfl rfl (.map none) (fun x k=>HLL.out x k)) hH ?_
    simp only [sA,sB,sC];refine wpAnyH_take_ex (i:=7) 37 rfl rfl (by kernel_rfl) (by kernel_rfl) (by kernel_rfl) (fun _ _ _ _ h=>h) (by kernel_rfl) hH ?_
    apply Exists.intro;apply And.intro
    ·intro w9 _
     go_simp
     first | done | rfl
    simp only [sA,sB,sC];refine wpAnyH_done (by kernel_rfl) ?_ _
    refine NoPanic.normal ?_;have K8:=hid hH;clear hH;generalize wd = w8 at K8 ⊢;have HR8:=hid (row_kept HR7.out K8.out);have HB8:=hid (HB7.out.kept K8.out);have HM8:=hid (HM7.out.same (row_kept' K8.out HM7.out.lt));have HV8:=hid (HV7.out.same (row_kept' K8.out HV7.out.lt));have HDF8:=hid (fun tb:Nat=>(HDF7.out tb).andKept K8.out)
    clear HR7 HB7 HM7 HV7 HDF7 K8;clear HLL
    go_upto_region 6 with fail
    refine wp_region_noPanic ?_;refine wp_region_heldTo 7 (S:=fun x=>Kept w8.heap.size w8.heap.size w8 x) (by kernel_rfl) ((Kept.refl w8.heap.size w8.heap.size w8).drew) (fun hH=>?_)
    obtain⟨wd,hwd⟩:∃ x,x = w8.drew:=⟨_,rfl⟩;rw [← hwd] at hH ⊢;clear hwd;refine heldTo_take_ex (i:=0) 38 rfl rfl (by kernel_rfl) (by kernel_rfl) (by kernel_rfl) (by kernel_rfl) (fun _ _ _ _ h=>h) (by kernel_rfl) hH ?_
    apply Exists.intro;apply And.intro
    ·intro w9 h9
     go_simp
     first | done | rfl
    simp only [sA,sB,sC];refine heldTo_take_ex (i:=1) 39 rfl rfl (by kernel_rfl) (by kernel_rfl) (by kernel_rfl) (by kernel_rfl) (fun _ _ _ _ h=>h) (by kernel_rfl) hH ?_
    apply Exists.intro;apply And.intro
    ·intro w9 h9
     go_simp
     first | done | rfl
    simp only [sA,sB,sC];refine heldTo_take_ex (i:=2) 40 rfl rfl (by kernel_rfl) (by kernel_rfl) (by kernel_rfl) (by kernel_rfl) (fun _ _ _ _ h=>h) (by kernel_rfl) hH ?_
    apply Exists.intro;apply And.intro
    ·intro w9 h9
     go_simp
     first | done | rfl
    simp only [sA,sB,sC];refine heldTo_take (i:=3) 41 (.map (some bb)) rfl rfl (by kernel_rfl) (by kernel_rfl) (by kernel_rfl) (by kernel_rfl) (fun _ _ _ h=>h) (yieldsIf_load_known (by kernel_rfl) 47 _ rfl (sb) (34) rfl (.map (some bb)) (fun x k=>HBM.out x hx HH6.out (row_kept HR8.out k))) hH ?_
    simp only [sA,sB,sC];refine heldTo_take_ex (i:=4) 42 rfl rfl (by kernel_rfl) (by kernel_rfl) (by kernel_rfl) (by kernel_rfl) (fun _ _ _ _ h=>h) (by kernel_rfl) hH ?_
    apply Exists.intro;apply And.intro
    ·intro w9 h9
     go_simp
     first | done | rfl
    simp only [sA,sB,sC];refine heldTo_take (i:=5) 43 (.agg pc) rfl rfl (by kernel_rfl) (by kernel_rfl) (by kernel_rfl) (by kernel_rfl) (fun _ _ _ h=>h) (yieldsIf_load_known (by kernel_rfl) 30 _ rfl (g0) (32) rfl (.agg pc) (fun x k=>HVQ.out x g0 (HB8.out.kept k))) hH ?_
    simp only [sA,sB,sC];refine heldTo_one (i:=6) (by kernel_rfl) rfl (fun K hK=>?_)
    rw [if_pos (by rfl)]
    have er:=makeIn15 wd;have ho:=In15.made wd;have ka:=hH.onto (kA wd (.map #[] 0));obtain⟨nb,hnb⟩:∃ x,x = wd.heap.size:=⟨_,rfl⟩;have HNB:=hid (show w8.heap.size≤nb by rw [hnb]; exact hH.size)
    rw [← hnb] at er ho;generalize wd.alloc (.map #[] 0) = wa at er ho ka ⊢;refine wp_makeMap15 55 rfl (some 44) rfl _ er ?_
    simp only [Act.put,sA,sB,sC];have Kwa:=hid ka;have HIA9:=hid ho;clear er ho ka hnb;refine hK.out _ _ Kwa.out (fun hH=>?_)
    clear hK K;refine heldTo_last (by kernel_rfl) rfl (fun K hK=>?_)
    rw [if_pos (by rfl)]
    obtain⟨wb,hrun,hmb,hgb,hzb⟩:=HST.out wa n G (HM8.out.same (row_kept' Kwa.out HM8.out.lt)) HNM.out (.map (some nb));refine wp_update_run15 (.tmp 41) (.tmp 43) (.tmp 44) 47 rfl rfl (.map (some bb)) (.agg pc) (.map (some nb)) rfl rfl rfl hrun ?_
    have hob:=fun(k:Nat) (h1:k < wa.heap.size) (h2:k≠bb)=>hgb.block k h1 (fun e=>h2 (Option.some.inj e))
    have hw8:w.heap.size≤w8.heap.size:=(HDF8.out 0).size;have HRb:=hid ((hob sb (lt_of_block (row_kept HR8.out Kwa.out)) HSV.out.2.1).trans (row_kept HR8.out Kwa.out));have HBb:=hid (show Vb wb g0 v from(hob g0 (lt_of_block (HB8.out.kept Kwa.out)) (fun e=>by have:=HG0.out; have:=HSV.out.2.2.2.2.2; omega)).trans (HB8.out.kept Kwa.out))
    have HMb:=hid hmb;have HVb:=hid (HV8.out.same ((hob vb (Nat.lt_of_lt_of_le HV8.out.lt Kwa.out.size) HSV.out.2.2.1).trans (row_kept' Kwa.out HV8.out.lt)));have HIb:=hid (HIA9.out.same (hob nb HIA9.out.lt (fun e=>by have:=HNB.out; have:=HSV.out.2.2.2.2.2; omega)))
    have HDFb:=hid (((HDF8.out nb).andKept Kwa.out).same1 (.inl (.inr (.inr (.inl rfl)))) (fun k hk=>by
     rcases Nat.lt_or_ge k wa.heap.size with h1 | h1
     ·exact hob k h1 hk
     ·rw [Array.getElem?_eq_none (by rw [hzb]; exact h1),Array.getElem?_eq_none h1]) hzb hgb.os hgb.tape hgb.output)
    have HTN:=hid (show nb≠sb∧nb≠vb∧nb≠bb from⟨fun e=>by have:=HNB.out; have:=HSV.out.2.2.2.1; omega,fun e=>by have:=HNB.out; have:=HSV.out.2.2.2.2.1; omega,fun e=>by have:=HNB.out; have:=HSV.out.2.2.2.2.2; omega⟩)
    have HNW:=hid (show w.heap.size≤nb from Nat.le_trans hw8 HNB.out);clear hob hw8 hmb hgb hzb hrun;refine hK _ _ ?_;clear hK K;refine heldTo_done (by kernel_rfl) ?_ _
    refine NoPanic.normal ?_;clear hH
    have HLL:Hid (∀ x:World,Kept wb.heap.size wb.heap.size wb x→(Instr.lookup 47 (.map (some bb)) (.agg pc) false).run Try.prog x = .ok (.map (some nb)) x):=hid (fun x k=>by
     have h9:=HLP.out x (n + 1) _ (HMb.out.same (row_kept' k HMb.out.lt));rw [upd_same] at h9
     exact h9)
    go_upto_region 7 with fail
    refine wp_region_noPanic ?_;refine wp_region_heldTo 10 (S:=fun x=>Kept wb.heap.size wb.heap.size wb x) (by kernel_rfl) ((Kept.refl wb.heap.size wb.heap.size wb).drew) (fun hH=>?_)
    obtain⟨wd,hwd⟩:∃ x,x = wb.drew:=⟨_,rfl⟩;rw [← hwd] at hH ⊢;clear hwd;refine heldTo_take_ex (i:=0) 45 rfl rfl (by kernel_rfl) (by kernel_rfl) (by kernel_rfl) (by kernel_rfl) (fun _ _ _ _ h=>h) (by kernel_rfl) hH ?_
    apply Exists.intro;apply And.intro
    ·intro w9 h9
     go_simp
     first | done | rfl
    simp only [sA,sB,sC];refine heldTo_take_ex (i:=1) 46 rfl rfl (by kernel_rfl) (by kernel_rfl) (by kernel_rfl) (by kernel_rfl) (fun _ _ _ _ h=>h) (by kernel_rfl) hH ?_
    apply Exists.intro;apply And.intro
    ·intro w9 h9
     go_simp
     first | done | rfl
    simp only [sA,sB,sC];refine heldTo_take_ex (i:=2) 47 rfl rfl (by kernel_rfl) (by kernel_rfl) (by kernel_rfl) (by kernel_rfl) (fun _ _ _ _ h=>h) (by kernel_rfl) hH ?_
    apply Exists.intro;apply And.intro
    ·intro w9 h9
     go_simp
     first | done | rfl
    simp only [sA,sB,sC];refine heldTo_take (i:=3) 48 (.map (some bb)) rfl rfl (by kernel_rfl) (by kernel_rfl) (by kernel_rfl) (by kernel_rfl) (fun _ _ _ h=>h) (yieldsIf_load_known (by kernel_rfl) 47 _ rfl (sb) (34) rfl (.map (some bb)) (fun x k=>HBM.out x hx HH6.out (row_kept HRb.out k))) hH ?_
    simp only [sA,sB,sC];refine heldTo_take_ex (i:=4) 49 rfl rfl (by kernel_rfl) (by kernel_rfl) (by kernel_rfl) (by kernel_rfl) (fun _ _ _ _ h=>h) (by kernel_rfl) hH ?_
    apply Exists.intro;apply And.intro
    ·intro w9 h9
     go_simp
     first | done | rfl
    simp only [sA,sB,sC];refine heldTo_take (i:=5) 50 (.agg pc) rfl rfl (by kernel_rfl) (by kernel_rfl) (by kernel_rfl) (by kernel_rfl) (fun _ _ _ h=>h) (yieldsIf_load_known (by kernel_rfl) 30 _ rfl (g0) (32) rfl (.agg pc) (fun x k=>HVQ.out x g0 (HBb.out.kept k))) hH ?_
    simp only [sA,sB,sC];refine heldTo_take (i:=6) 51 (.map (some nb)) rfl rfl (by kernel_rfl) (by kernel_rfl) (by kernel_rfl) (by kernel_rfl) (fun _ _ _ h=>h) (yieldsIf_lookup15 (by kernel_rfl) 47 _ _ false rfl (.map (some bb)) (.agg pc) rfl rfl (.map (some nb)) (fun x k=>HLL.out x k)) hH ?_
    simp only [sA,sB,sC];refine heldTo_take_ex (i:=7) 52 rfl rfl (by kernel_rfl) (by kernel_rfl) (by kernel_rfl) (by kernel_rfl) (fun _ _ _ _ h=>h) (by kernel_rfl) hH ?_
    apply Exists.intro;apply And.intro
    ·intro w9 h9
     go_simp
     first | done | rfl
    simp only [sA,sB,sC];refine heldTo_take (i:=8) 53 (.int .i64 vd) rfl rfl (by kernel_rfl) (by kernel_rfl) (by kernel_rfl) (by kernel_rfl) (fun _ _ _ h=>h) (yieldsIf_load_known (by kernel_rfl) 3 _ rfl (g0) (64) rfl (.int .i64 vd) (fun x k=>HVE.out x g0 (HBb.out.kept k))) hH ?_
    simp only [sA,sB,sC];refine heldTo_take (i:=9) 54 (.agg #[]) rfl rfl (by kernel_rfl) (by kernel_rfl) (by kernel_rfl) (by kernel_rfl) (fun _ _ _ h=>h) (yieldsIf_build0 (by kernel_rfl) 56 rfl (.agg #[]) (fun x=>build_unit15 x)) hH ?_
    simp only [sA,sB,sC];refine heldTo_last (by kernel_rfl) rfl (fun K hK=>?_)
    rw [if_pos (by rfl)]
    obtain⟨w9,hrun,hin9,ht9⟩:=HIP.out wd nb 0 (HIb.out.same (row_kept' hH HIb.out.lt)) (Nat.lt_of_le_of_lt (Nat.zero_le _) HNM.out);refine wp_update_run15 (.tmp 51) (.tmp 53) (.tmp 54) 55 rfl rfl (.map (some nb)) (.int .i64 vd) (.agg #[]) rfl rfl rfl hrun ?_
    have HR9:=hid ((turned_other ht9 (fun e=>HTN.out.1 e.symm)).trans (row_kept HRb.out hH))
    have HM9:=hid (HMb.out.same ((turned_other ht9 (fun e=>HTN.out.2.2 e.symm)).trans (row_kept' hH HMb.out.lt)))
    have HV9:=hid (HVb.out.same ((turned_other ht9 (fun e=>HTN.out.2.1 e.symm)).trans (row_kept' hH HVb.out.lt)))
    have HI9:=hid hin9;have HDF9:=hid (((HDFb.out).andKept hH).turned ht9 (.inl (.inr (.inr (.inr rfl)))));clear hin9 ht9 hrun;refine hK _ _ ?_;clear hK K;refine heldTo_done (by kernel_rfl) ?_ _
    refine NoPanic.normal ?_;clear hH;go_wp2
    go_end0
    exact HPD.out _ _ _ _ HR9.out HTP.out HV9.out HM9.out (upd_same _ _ _) (fun l hl=>upd_other _ _ hl) (HI9.out.mono (by omega)) HTN.out.2.1 HTN.out.2.2 (.inr HNW.out) HDF9.out
   | some y=>
    obtain⟨ib,rfl,fib,lib,nvb,nbb,nsb,hib⟩:=HGI.out y rfl
    have HLL:Hid (∀ x:World,Kept w7.heap.size w7.heap.size w7 x→(Instr.lookup 47 (.map (some bb)) (.agg pc) false).run Try.prog x = .ok (.map (some ib)) x):=hid (fun x k=>by
     have h9:=HLP.out x n G (HM7.out.same (row_kept' k HM7.out.lt));rw [← HGL.out] at h9
     exact h9)
    have HTN:=hid (show ib≠sb∧ib≠vb∧ib≠bb from⟨nsb,nvb,nbb⟩);have HFI:=hid fib
    have HI7:=hid (hib.same ((HDF7.out bb).block ib lib (show ¬ Tch sb vb bb bb ib from fun h=>by
     rcases h with h | h | h | h
     ·exact nsb h
     ·exact nvb h
     ·exact nbb h
     ·exact nbb h)))
    clear fib lib nvb nbb nsb hib;refine wp_region_noPanic ?_;refine wp_region_held_drew (S:=fun w'=>Kept w7.heap.size w7.heap.size w7 w') (by kernel_rfl) ((Kept.refl _ _ _).drew) (fun hH=>?_)
    obtain⟨wd,hwd⟩:∃ x,x = w7.drew:=⟨_,rfl⟩;rw [← hwd] at hH ⊢;clear hwd;refine wpAnyH_take_ex (i:=0) 30 rfl rfl (by kernel_rfl) (by kernel_rfl) (by kernel_rfl) (fun _ _ _ _ h=>h) (by kernel_rfl) hH ?_
    apply Exists.intro;apply And.intro
    ·intro w9 _
     go_simp
     first | done | rfl
    simp only [sA,sB,sC];refine wpAnyH_take_ex (i:=1) 31 rfl rfl (by kernel_rfl) (by kernel_rfl) (by kernel_rfl) (fun _ _ _ _ h=>h) (by kernel_rfl) hH ?_
    apply Exists.intro;apply And.intro
    ·intro w9 _
     go_simp
     first | done | rfl
    simp only [sA,sB,sC];refine wpAnyH_take_ex (i:=2) 32 rfl rfl (by kernel_rfl) (by kernel_rfl) (by kernel_rfl) (fun _ _ _ _ h=>h) (by kernel_rfl) hH ?_
    apply Exists.intro;apply And.intro
    ·intro w9 _
     go_simp
     first | done | rfl
    simp only [sA,sB,sC];refine wpAnyH_take_at (i:=3) 33 (.map (some bb)) rfl rfl (by kernel_rfl) (by kernel_rfl) (by kernel_rfl) (fun _ _ _ h=>h) (yieldsIf_load_known (by kernel_rfl) 47 _ rfl (sb) (34) rfl (.map (some bb)) (fun x k=>HBM.out x hx HH6.out (row_kept HR7.out k))) hH ?_
    simp only [sA,sB,sC];refine wpAnyH_take_ex (i:=4) 34 rfl rfl (by kernel_rfl) (by kernel_rfl) (by kernel_rfl) (fun _ _ _ _ h=>h) (by kernel_rfl) hH ?_
    apply Exists.intro;apply And.intro
    ·intro w9 _
     go_simp
     first | done | rfl
    simp only [sA,sB,sC];refine wpAnyH_take_at (i:=5) 35 (.agg pc) rfl rfl (by kernel_rfl) (by kernel_rfl) (by kernel_rfl) (fun _ _ _ h=>h) (yieldsIf_load_known (by kernel_rfl) 30 _ rfl (g0) (32) rfl (.agg pc) (fun x k=>HVQ.out x g0 (HB7.out.kept k))) hH ?_
    simp only [sA,sB,sC];refine wpAnyH_take_at (i:=6) 36 (.map (some ib)) rfl rfl (by kernel_rfl) (by kernel_rfl) (by kernel_rfl) (fun _ _ _ h=>h) (yieldsIf_lookup15 (by kernel_rfl) 47 _ _ false rfl (.map (some bb)) (.agg pc) rfl rfl (.map (some ib)) (fun x k=>HLL.out x k)) hH ?_
    simp only [sA,sB,sC];refine wpAnyH_take_ex (i:=7) 37 rfl rfl (by kernel_rfl) (by kernel_rfl) (by kernel_rfl) (fun _ _ _ _ h=>h) (by kernel_rfl) hH ?_
    apply Exists.intro;apply And.intro
    ·intro w9 _
     go_simp
     first | done | rfl
    simp only [sA,sB,sC];refine wpAnyH_done (by kernel_rfl) ?_ _
    refine NoPanic.normal ?_;have K8:=hid hH;clear hH;generalize wd = w8 at K8 ⊢;have HR8:=hid (row_kept HR7.out K8.out);have HB8:=hid (HB7.out.kept K8.out);have HM8:=hid (HM7.out.same (row_kept' K8.out HM7.out.lt));have HV8:=hid (HV7.out.same (row_kept' K8.out HV7.out.lt));have HDF8:=hid (fun tb:Nat=>(HDF7.out tb).andKept K8.out)
    have HI8:=hid (HI7.out.same (row_kept' K8.out HI7.out.lt));clear HI7 HR7 HB7 HM7 HV7 HDF7 K8;clear HLL
    have HLL:Hid (∀ x:World,Kept w8.heap.size w8.heap.size w8 x→(Instr.lookup 47 (.map (some bb)) (.agg pc) false).run Try.prog x = .ok (.map (some ib)) x):=hid (fun x k=>by
     have h9:=HLP.out x n G (HM8.out.same (row_kept' k HM8.out.lt));rw [← HGL.out] at h9
     exact h9)
    go_upto_region 7 with fail
    refine wp_region_noPanic ?_;refine wp_region_heldTo 10 (S:=fun x=>Kept w8.heap.size w8.heap.size w8 x) (by kernel_rfl) ((Kept.refl w8.heap.size w8.heap.size w8).drew) (fun hH=>?_)
    obtain⟨wd,hwd⟩:∃ x,x = w8.drew:=⟨_,rfl⟩;rw [← hwd] at hH ⊢;clear hwd;refine heldTo_take_ex (i:=0) 45 rfl rfl (by kernel_rfl) (by kernel_rfl) (by kernel_rfl) (by kernel_rfl) (fun _ _ _ _ h=>h) (by kernel_rfl) hH ?_
    apply Exists.intro;apply And.intro
    ·intro w9 h9
     go_simp
     first | done | rfl
    simp only [sA,sB,sC];refine heldTo_take_ex (i:=1) 46 rfl rfl (by kernel_rfl) (by kernel_rfl) (by kernel_rfl) (by kernel_rfl) (fun _ _ _ _ h=>h) (by kernel_rfl) hH ?_
    apply Exists.intro;apply And.intro
    ·intro w9 h9
     go_simp
     first | done | rfl
    simp only [sA,sB,sC];refine heldTo_take_ex (i:=2) 47 rfl rfl (by kernel_rfl) (by kernel_rfl) (by kernel_rfl) (by kernel_rfl) (fun _ _ _ _ h=>h) (by kernel_rfl) hH ?_
    apply Exists.intro;apply And.intro
    ·intro w9 h9
     go_simp
     first | done | rfl
    simp only [sA,sB,sC];refine heldTo_take (i:=3) 48 (.map (some bb)) rfl rfl (by kernel_rfl) (by kernel_rfl) (by kernel_rfl) (by kernel_rfl) (fun _ _ _ h=>h) (yieldsIf_load_known (by kernel_rfl) 47 _ rfl (sb) (34) rfl (.map (some bb)) (fun x k=>HBM.out x hx HH6.out (row_kept HR8.out k))) hH ?_
    simp only [sA,sB,sC];refine heldTo_take_ex (i:=4) 49 rfl rfl (by kernel_rfl) (by kernel_rfl) (by kernel_rfl) (by kernel_rfl) (fun _ _ _ _ h=>h) (by kernel_rfl) hH ?_
    apply Exists.intro;apply And.intro
    ·intro w9 h9
     go_simp
     first | done | rfl
    simp only [sA,sB,sC];refine heldTo_take (i:=5) 50 (.agg pc) rfl rfl (by kernel_rfl) (by kernel_rfl) (by kernel_rfl) (by kernel_rfl) (fun _ _ _ h=>h) (yieldsIf_load_known (by kernel_rfl) 30 _ rfl (g0) (32) rfl (.agg pc) (fun x k=>HVQ.out x g0 (HB8.out.kept k))) hH ?_
    simp only [sA,sB,sC];refine heldTo_take (i:=6) 51 (.map (some ib)) rfl rfl (by kernel_rfl) (by kernel_rfl) (by kernel_rfl) (by kernel_rfl) (fun _ _ _ h=>h) (yieldsIf_lookup15 (by kernel_rfl) 47 _ _ false rfl (.map (some bb)) (.agg pc) rfl rfl (.map (some ib)) (fun x k=>HLL.out x k)) hH ?_
    simp only [sA,sB,sC];refine heldTo_take_ex (i:=7) 52 rfl rfl (by kernel_rfl) (by kernel_rfl) (by kernel_rfl) (by kernel_rfl) (fun _ _ _ _ h=>h) (by kernel_rfl) hH ?_
    apply Exists.intro;apply And.intro
    ·intro w9 h9
     go_simp
     first | done | rfl
    simp only [sA,sB,sC];refine heldTo_take (i:=8) 53 (.int .i64 vd) rfl rfl (by kernel_rfl) (by kernel_rfl) (by kernel_rfl) (by kernel_rfl) (fun _ _ _ h=>h) (yieldsIf_load_known (by kernel_rfl) 3 _ rfl (g0) (64) rfl (.int .i64 vd) (fun x k=>HVE.out x g0 (HB8.out.kept k))) hH ?_
    simp only [sA,sB,sC];refine heldTo_take (i:=9) 54 (.agg #[]) rfl rfl (by kernel_rfl) (by kernel_rfl) (by kernel_rfl) (by kernel_rfl) (fun _ _ _ h=>h) (yieldsIf_build0 (by kernel_rfl) 56 rfl (.agg #[]) (fun x=>build_unit15 x)) hH ?_
    simp only [sA,sB,sC];refine heldTo_last (by kernel_rfl) rfl (fun K hK=>?_)
    rw [if_pos (by rfl)]
    obtain⟨w9,hrun,hin9,ht9⟩:=HIP.out wd ib n (HI8.out.same (row_kept' hH HI8.out.lt)) (HNM.out);refine wp_update_run15 (.tmp 51) (.tmp 53) (.tmp 54) 55 rfl rfl (.map (some ib)) (.int .i64 vd) (.agg #[]) rfl rfl rfl hrun ?_
    have HR9:=hid ((turned_other ht9 (fun e=>HTN.out.1 e.symm)).trans (row_kept HR8.out hH))
    have HM9:=hid (HM8.out.same ((turned_other ht9 (fun e=>HTN.out.2.2 e.symm)).trans (row_kept' hH HM8.out.lt)))
    have HV9:=hid (HV8.out.same ((turned_other ht9 (fun e=>HTN.out.2.1 e.symm)).trans (row_kept' hH HV8.out.lt)))
    have HI9:=hid hin9;have HDF9:=hid (((HDF8.out ib).andKept hH).turned ht9 (.inl (.inr (.inr (.inr rfl)))));clear hin9 ht9 hrun;refine hK _ _ ?_;clear hK K;refine heldTo_done (by kernel_rfl) ?_ _
    refine NoPanic.normal ?_;clear hH;go_wp2
    go_end0
    exact HPD.out _ _ _ _ HR9.out HTP.out HV9.out (HM9.out.mono (Nat.le_succ n)) HGL.out.symm (fun _ _=>rfl) HI9.out HTN.out.2.1 HTN.out.2.2 (.inl HFI.out) HDF9.out
end Go.Proofs.Ytfbfdaeagpdaiaa
