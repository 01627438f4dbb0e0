/-
 The landed drop.
-/
import Derived.Test.YtfbfdaeagpdaiaaDagPut
set_option maxRecDepth 100000
set_option maxHeartbeats 25600000
namespace Go.Proofs.Ytfbfdaeagpdaiaa
open Go.RowKit Go.Lib
open List renaming setIfInBounds_toArray → sA, set_cons_zero → sB, set_cons_succ → sC
open BigFrame renaming wpList_want → wQ
section
variable {P:Program} {o:Oper} {a:Act} {w w':World} {K:Act→World→Prop} {Q:Exit→Act→World→Prop}
theorem wp_delete_run15 (m x:Operand)(t k ty:TypeId)(hty:o.type = ty)(ho:o.op = .call { callee:=.builtin .delete,args:=#[m,x],argTypes:=#[t,k] })(hd:o.dst = none)(v y:Value)(hm:a.eval m = v)(hx:a.eval x = y){r:Value}(hr:(Builtin.delete_ #[t,k] ty #[v,y]).run P w = .ok r w')(hk:K a w'):o.wp P a w K Q:=by
 subst hty;unfold Oper.wp execOp;simp only [ho,resolve,invoke,builtin,Sem.run_bind,Sem.run_pure,Result.andThen_ok,List.map_toArray,List.map_cons,List.map_nil,hm,hx,hr];have hk':K (a.put o.dst r) w':=by rw [hd]; exact hk
 exact hk'
theorem yieldsIf_len15 {ops:Array Oper}{S:World→Prop}(hw:Region.wanted o (yielded ops a.tmps) = true)(m:Operand)(t ty:TypeId)(hty:o.type = ty)(ho:o.op = .call { callee:=.builtin .len,args:=#[m],argTypes:=#[t] })(v:Value)(hm:a.eval m = v)(r:Value)(hr:∀ w,S w→(Builtin.len_ #[t] ty #[v]).run P w = .ok r w):YieldsIf P ops S o r a:=
 .inl ⟨hw,fun w hS=>by
  subst hty;unfold execOp
  simp only [ho,resolve,invoke,builtin,Sem.run_bind,Sem.run_pure,Result.andThen_ok,List.map_toArray,List.map_cons,List.map_nil,hm,hr w hS]⟩
end
section
variable {w x:World} {sb vb bb n tb:Nat} {F:Nat→Prop} {keep:Int} {L:List Vx} {h:Option Vx} {P:List (List UInt8)} {hd:List UInt8} {G G':Lit→Option Value} {v:Vx}
def DropP (w:World)(sb:Nat)(F:Nat→Prop)(keep:Int)(n:Nat)(L:List Vx)(h:Option Vx)(P:List (List UInt8))(v:Vx)(e:Ending)(w':World):Prop:=
 e = .returned (.tuple #[])∧Dfr F w w'∧Dst w' sb F keep n (but L v.id) h P
theorem drop_done (d:Ds w sb F keep n L h P vb bb hd)(hGv:∀ l y,G l = some y→Gv F vb bb n P w l y){t:Vx}(ht:h = some t)(hne:t.id≠v.id)
  (h3:Vp x vb n (but L v.id)) (h4:Mp x 30 bb n G') (h5:∀ l y,G' l = some y→G l = some y) (h8:tb = vb∨F tb∧tb≠sb∧In15 x tb n) (h11:Dfr (Tch vb vb bb tb) w x) :
  DropP w sb F keep n L h P v (.returned (.tuple #[])) x:=by
 have hsv:sb≠vb:=by
  rintro rfl;obtain⟨D,⟨es,clock,hb,_⟩,_⟩:=d.vp;rw [d.blk] at hb
  cases hb
 have hsb:sb≠bb:=by
  rintro rfl;obtain⟨G0,⟨D,⟨es,clock,hb,_⟩,_⟩,_⟩:=d.bp;rw [d.blk] at hb
  cases hb
 have hblk:x.heap[sb]? = w.heap[sb]?:=h11.block sb (d.lt sb d.fs) (by
  rintro (h | h | h | h)
  ·exact hsv h
  ·exact hsv h
  ·exact hsb h
  ·rcases h8 with h0 | ⟨_,h0,_⟩
   ·exact hsv (h.trans h0)
   ·exact h0 h.symm)
 refine⟨rfl,?_,vb,bb,hd,?_⟩
 ·refine⟨h11.os,h11.tape,h11.output,h11.size,fun k hk hn=>h11.block k hk ?_⟩
  rintro (rfl | rfl | rfl | rfl)
  ·exact hn d.fv
  ·exact hn d.fv
  ·exact hn d.fb
  ·rcases h8 with rfl | h
   ·exact hn d.fv
   ·exact hn h.1
 ·refine⟨hblk.trans d.blk,d.hd32,h3,⟨G',h4,fun l y hl=>?_⟩,d.fs,d.fv,d.fb,d.ne,fun k hk=>Nat.lt_of_lt_of_le (d.lt k hk) h11.size,d.top,?_,d.kp,d.nn⟩
  ·obtain⟨hp,ib,e2,f1,n1,n2,hi⟩:=hGv l y (h5 l y hl)
   refine⟨hp,ib,e2,f1,n1,n2,?_⟩
   by_cases hib:ib = tb
   ·subst hib
    rcases h8 with h | h
    ·exact absurd h n1
    ·exact h.2.2
   ·refine hi.same (h11.block ib (d.lt ib f1) ?_)
    rintro (rfl | rfl | rfl | rfl)
    ·exact n1 rfl
    ·exact n1 rfl
    ·exact n2 rfl
    ·exact hib rfl
  ·have hs:=d.st
   subst ht;exact hs.less (p:=fun u=>!(u.id == v.id)) (by simpa using hne)
end
theorem drop15 {sb n:Nat}{F:Nat→Prop}{keep:Int}{L:List Vx}{h:Option Vx}{P:List (List UInt8)}(w:World)(ds:Dst w sb F keep n L h P)(v:Vx)(hvL:v∈L){t:Vx}(ht:h = some t)(hne:t.id≠v.id):
  Calls Try.prog 17 #[.pointer (some ⟨sb,0,none⟩),v.val] w (DropP w sb F keep n L h P v):=by
 obtain⟨vb,bb,hd,d⟩:=ds;obtain⟨G,hG,hGv⟩:=d.bp;obtain⟨hv,hv0,hv1⟩:=d.st.ok v hvL;have HPD:=hid (fun(x:World) (G':Lit→Option Value) (tb:Nat)=>drop_done (x:=x) (G':=G') (tb:=tb) (v:=v) d hGv ht hne)
 have HGI:Hid (∀ y,G (.string v.par) = some y→∃ ib,y = .map (some ib)∧F ib∧ib < w.heap.size∧ib≠vb∧ib≠bb∧ib≠sb∧In15 w ib n):=hid (fun y hy=>by
  obtain⟨_,ib,e,f1,n1,n2,hi⟩:=hGv _ _ hy;refine⟨ib,e,f1,d.lt ib f1,n1,n2,?_,hi⟩;rintro rfl;obtain⟨D,es,clock,hb,_⟩:=hi;rw [d.blk] at hb
  cases hb)
 have HSV:Hid (sb≠vb∧sb≠bb∧vb≠bb∧sb < w.heap.size∧vb < w.heap.size∧bb < w.heap.size):=hid ⟨(by
  rintro rfl;obtain⟨D,⟨es,clock,hb,_⟩,_⟩:=d.vp;rw [d.blk] at hb
  cases hb),(by
  rintro rfl;obtain⟨D,⟨es,clock,hb,_⟩,_⟩:=hG;rw [d.blk] at hb
  cases hb),d.ne,d.lt sb d.fs,d.lt vb d.fv,d.lt bb d.fb⟩
 have HVP:=hid d.vp;have HMG:=hid hG;have HBK:=hid d.blk;have HD32:=hid d.hd32;have HDR:=hid (fun(x:World) (hx:Vp x vb n L)=>hx.drop d.st.nodup hv.1 0)
 have HLP:=hid (fun(x:World) (m:Nat) (g:Lit→Option Value) (hg:Mp x 30 bb m g)=>behind_look hg hv.2)
 have HBD:=hid (fun(x:World) (g:Lit→Option Value) (hg:Mp x 30 bb n g)=>hg.drop hash_keyed Try.underlying47 (keyOf_hash v.par hv.2) 0)
 have HID:=hid (fun(x:World) (b:Nat) (hi:In15 x b n)=>hi.drop hv0 hv1 0)
 have HNL:=hid (fun(x:World)=>Maps.drop_nil (w:=x) int_keyed3 Try.underlying55 (Maps.keyOf_int_mk Try.underlying3 (wf_dep hv0 hv1)) 0)
 have HVI:=hid (fun(x:World) (g:Nat) (hg:Vb x g v)=>hg.lid hv)
 have HVQ:=hid (fun(x:World) (g:Nat) (hg:Vb x g v)=>hg.lpar hv)
 have HVE:=hid (fun(x:World) (g:Nat) (hg:Vb x g v)=>hg.ldep hv)
 have HVW:=hid (show ∀ (x:World) (g:Nat),x.heap[g]? = some (.cells v.cells.toArray 36 (0,0))→Vb x g v from fun x g h=>h)
 have HVM:=hid (fun(x:World) (hx:x.heap[sb]? = some (.cells (scells keep vb hd bb).toArray 49 (0,0)))=>load_map15 (w:=x) (g:=sb) (o:=1) (x:=some vb) (cells_get hx rfl))
 have HBM:=hid (fun(x:World) (hx:x.heap[sb]? = some (.cells (scells keep vb hd bb).toArray 49 (0,0)))=>load_behind15 (w:=x) (g:=sb) (o:=34) (x:=some bb) (cells_get hx (by
  simp only [scells,List.getElem?_cons_succ];rw [List.getElem?_append_right (by rw [bcells_length,d.hd32]; exact Nat.le_refl _),bcells_length,d.hd32]
  rfl)))
 obtain⟨gl,hgl⟩:∃ x,x = G (.string v.par):=⟨_,rfl⟩;have HGL:=hid hgl;rw [← hgl] at HGI;obtain⟨vd,hvd⟩:∃ x,x = v.dep:=⟨_,rfl⟩;rw [← hvd] at HVE HID HNL;unfold Vx.val;generalize v.cells.toArray = VC at HVW ⊢;obtain⟨pc,hpc⟩:∃ x,x = (bcells v.par).toArray:=⟨_,rfl⟩;rw [← hpc] at HLP HVQ HBD;obtain⟨ic,hic⟩:∃ x,x = (bcells v.id).toArray:=⟨_,rfl⟩;rw [← hic] at HVI HDR;obtain⟨SK,hSK⟩:∃ x,x = Obj.cells (scells keep vb hd bb).toArray 49 (0,0):=⟨_,rfl⟩
 rw [← hSK] at HBK HVM HBM;clear d hG hGv hv hv0 hv1 hvL hgl hvd hpc hic ht hne hSK
 go_enter Try.func17,Try.ntmps17
 go_upto_region 0 with fail
 refine wp_region_lit ?_;refine @wQ _ _ _ _ _ _ _ ?_ ?_;kernel_rfl;intro K hK;go_simp;refine hK _ _ ?_;clear hK K;have k2:Kept w.heap.size w.heap.size w (w.alloc (.cells VC 36)):=(Kept.refl _ _ _).alloc (Nat.le_refl _) _
 have b1:=HVW.out _ _ (heap_new w (.cells VC 36))
 obtain⟨g0,hg0⟩:∃ x,x = w.heap.size:=⟨_,rfl⟩;have HG0:=hid (show g0≠vb∧g0≠bb∧w.heap.size≤g0 from⟨fun e=>by have:=HSV.out.2.2.2.2.1; omega,fun e=>by have:=HSV.out.2.2.2.2.2; omega,by omega⟩)
 rw [← hg0] at b1;generalize w.alloc (.cells VC 36) = w2 at k2 b1 ⊢
 rw [← hg0];have R2:=hid (row_kept HBK.out k2);have V2:=hid (HVP.out.same (row_kept' k2 HVP.out.lt));have M2:=hid (HMG.out.same (row_kept' k2 HMG.out.lt));have F2:=hid (fun tb:Nat=>(Dfr.of_kept k2:Dfr (Tch vb vb bb tb) w w2))
 have B1:=hid b1;clear k2 b1 hg0
 go_upto_region 1 with fail
 refine wp_region_noPanic ?_;refine wp_region_held_drew (S:=fun x=>x.heap[sb]? = some SK∧Vb x g0 v) (by kernel_rfl) (⟨R2.out,B1.out⟩) (fun hH=>?_)
 obtain⟨wd,hwd⟩:∃ x,x = w2.drew:=⟨_,rfl⟩;rw [← hwd] at hH ⊢;have V2D:=V2.out.same (w':=wd) (by rw [hwd]; rfl)
 have M2D:=M2.out.same (w':=wd) (by rw [hwd]; rfl)
 have F2D:=fun tb:Nat=>(F2.out tb).andKept (w2:=wd) (by rw [hwd]; exact(Kept.refl _ _ _).drew)
 clear hwd;refine wpAnyH_take_ex (i:=0) 4 rfl rfl (by kernel_rfl) (by kernel_rfl) (by kernel_rfl) (fun _ _ _ _ h=>h) (by kernel_rfl) hH ?_
 apply Exists.intro;apply And.intro
 ·intro w9 _
  go_simp
  first | done | rfl
 simp only [sA,sB,sC];refine wpAnyH_take_ex (i:=1) 5 rfl rfl (by kernel_rfl) (by kernel_rfl) (by kernel_rfl) (fun _ _ _ _ h=>h) (by kernel_rfl) hH ?_
 apply Exists.intro;apply And.intro
 ·intro w9 _
  go_simp
  first | done | rfl
 simp only [sA,sB,sC];refine wpAnyH_take_ex (i:=2) 6 rfl rfl (by kernel_rfl) (by kernel_rfl) (by kernel_rfl) (fun _ _ _ _ h=>h) (by kernel_rfl) hH ?_
 apply Exists.intro;apply And.intro
 ·intro w9 _
  go_simp
  first | done | rfl
 simp only [sA,sB,sC];refine wpAnyH_take_at (i:=3) 7 (.map (some vb)) rfl rfl (by kernel_rfl) (by kernel_rfl) (by kernel_rfl) (fun _ _ _ h=>h) (yieldsIf_load_known (by kernel_rfl) 46 _ rfl (sb) (1) rfl (.map (some vb)) (fun x k=>HVM.out x k.1)) hH ?_
 simp only [sA,sB,sC];refine wpAnyH_take_ex (i:=4) 8 rfl rfl (by kernel_rfl) (by kernel_rfl) (by kernel_rfl) (fun _ _ _ _ h=>h) (by kernel_rfl) hH ?_
 apply Exists.intro;apply And.intro
 ·intro w9 _
  go_simp
  first | done | rfl
 simp only [sA,sB,sC];refine wpAnyH_take_at (i:=5) 9 (.agg ic) rfl rfl (by kernel_rfl) (by kernel_rfl) (by kernel_rfl) (fun _ _ _ h=>h) (yieldsIf_load_known (by kernel_rfl) 30 _ rfl (g0) (0) rfl (.agg ic) (fun x k=>HVI.out x g0 k.2)) hH ?_
 simp only [sA,sB,sC];refine wpAnyH_ready (rs:=[6]) (by kernel_rfl) (by simp) ?_
 refine AllReadyH.cons rfl (fun K hK=>?_) AllReadyH.nil
 rw [if_pos (by rfl)]
 obtain⟨w3,hrun,hvp3,ht3⟩:=HDR.out wd V2D;refine wp_delete_run15 (.tmp 7) (.tmp 9) 46 30 0 rfl rfl rfl (.map (some vb)) (.agg ic) rfl rfl hrun ?_
 have KS:w3.heap[sb]? = some SK∧Vb w3 g0 v:=⟨(turned_other ht3 HSV.out.1).trans hH.1,(turned_other ht3 HG0.out.1).trans hH.2⟩;have R3:=hid KS.1;have B3:=hid KS.2;have V3:=hid hvp3;have M3:=hid (M2D.same (turned_other ht3 (fun e=>HSV.out.2.2.1 e.symm)))
 have F3:=hid (fun tb:Nat=>(F2D tb).turned ht3 (.inl (.inl rfl)))
 clear hvp3 ht3 hrun V2D M2D F2D;refine hK.out _ _ KS (fun hH=>?_)
 clear hK K KS;refine wpAnyH_done (by kernel_rfl) ?_ _
 refine NoPanic.normal ?_
 go_upto_region 2 with fail
 cases gl with
 | none=>
  have HLL:Hid (∀ x:World,Mp x 30 bb n G→(Instr.lookup 47 (.map (some bb)) (.agg pc) false).run Try.prog x = .ok (.map none) x):=hid (fun x k=>by
   have h9:=HLP.out x n G k;rw [← HGL.out] at h9
   exact h9)
  refine wp_region_noPanic ?_;refine wp_region_held_drew (S:=fun x=>x.heap[sb]? = some SK∧Vb x g0 v∧Mp x 30 bb n G) (by kernel_rfl) (⟨R3.out,B3.out,M3.out⟩) (fun hH=>?_)
  obtain⟨wd,hwd⟩:∃ x,x = w3.drew:=⟨_,rfl⟩;rw [← hwd] at hH ⊢;have V3D:=V3.out.same (w':=wd) (by rw [hwd]; rfl)
  have F3D:=fun tb:Nat=>(F3.out tb).andKept (w2:=wd) (by rw [hwd]; exact(Kept.refl _ _ _).drew)
  clear hwd;refine wpAnyH_take_ex (i:=0) 10 rfl rfl (by kernel_rfl) (by kernel_rfl) (by kernel_rfl) (fun _ _ _ _ h=>h) (by kernel_rfl) hH ?_
  apply Exists.intro;apply And.intro
  ·intro w9 _
   go_simp
   first | done | rfl
  simp only [sA,sB,sC];refine wpAnyH_take_ex (i:=1) 11 rfl rfl (by kernel_rfl) (by kernel_rfl) (by kernel_rfl) (fun _ _ _ _ h=>h) (by kernel_rfl) hH ?_
  apply Exists.intro;apply And.intro
  ·intro w9 _
   go_simp
   first | done | rfl
  simp only [sA,sB,sC];refine wpAnyH_take_ex (i:=2) 12 rfl rfl (by kernel_rfl) (by kernel_rfl) (by kernel_rfl) (fun _ _ _ _ h=>h) (by kernel_rfl) hH ?_
  apply Exists.intro;apply And.intro
  ·intro w9 _
   go_simp
   first | done | rfl
  simp only [sA,sB,sC];refine wpAnyH_take_at (i:=3) 13 (.map (some bb)) rfl rfl (by kernel_rfl) (by kernel_rfl) (by kernel_rfl) (fun _ _ _ h=>h) (yieldsIf_load_known (by kernel_rfl) 47 _ rfl (sb) (34) rfl (.map (some bb)) (fun x k=>HBM.out x k.1)) hH ?_
  simp only [sA,sB,sC];refine wpAnyH_take_ex (i:=4) 14 rfl rfl (by kernel_rfl) (by kernel_rfl) (by kernel_rfl) (fun _ _ _ _ h=>h) (by kernel_rfl) hH ?_
  apply Exists.intro;apply And.intro
  ·intro w9 _
   go_simp
   first | done | rfl
  simp only [sA,sB,sC];refine wpAnyH_take_at (i:=5) 15 (.agg pc) rfl rfl (by kernel_rfl) (by kernel_rfl) (by kernel_rfl) (fun _ _ _ h=>h) (yieldsIf_load_known (by kernel_rfl) 30 _ rfl (g0) (32) rfl (.agg pc) (fun x k=>HVQ.out x g0 k.2.1)) hH ?_
  simp only [sA,sB,sC];refine wpAnyH_take_at (i:=6) 16 (.map none) rfl rfl (by kernel_rfl) (by kernel_rfl) (by kernel_rfl) (fun _ _ _ h=>h) (yieldsIf_lookup15 (by kernel_rfl) 47 _ _ false rfl (.map (some bb)) (.agg pc) rfl rfl (.map none) (fun x k=>HLL.out x k.2.2)) hH ?_
  simp only [sA,sB,sC];refine wpAnyH_take_ex (i:=7) 17 rfl rfl (by kernel_rfl) (by kernel_rfl) (by kernel_rfl) (fun _ _ _ _ h=>h) (by kernel_rfl) hH ?_
  apply Exists.intro;apply And.intro
  ·intro w9 _
   go_simp
   first | done | rfl
  simp only [sA,sB,sC];refine wpAnyH_take_at (i:=8) 18 (.int .i64 vd) rfl rfl (by kernel_rfl) (by kernel_rfl) (by kernel_rfl) (fun _ _ _ h=>h) (yieldsIf_load_known (by kernel_rfl) 3 _ rfl (g0) (64) rfl (.int .i64 vd) (fun x k=>HVE.out x g0 k.2.1)) hH ?_
  simp only [sA,sB,sC];refine wpAnyH_ready (rs:=[9]) (by kernel_rfl) (by simp) ?_
  refine AllReadyH.cons rfl (fun K hK=>?_) AllReadyH.nil
  rw [if_pos (by rfl)]
  have hrun:=HNL.out wd;have KS:=hH;obtain⟨w4,hw4⟩:∃ x,x = wd:=⟨_,rfl⟩;rw [← hw4] at hrun KS;have V4:=hid (show Vp w4 vb n (but L v.id) by rw [hw4]; exact V3D)
  have F4:=hid (fun tb:Nat=>(show Dfr (Tch vb vb bb tb) w w4 by rw [hw4]; exact F3D tb))
  rw [← hw4];clear hw4 V3D F3D;refine wp_delete_run15 (.tmp 16) (.tmp 18) 55 3 0 rfl rfl rfl (.map none) (.int .i64 vd) rfl rfl hrun ?_
  have R4:=hid KS.1;have B4:=hid KS.2.1;have M4:=hid KS.2.2;refine hK.out _ _ KS (fun hH=>?_)
  clear hK K KS;refine wpAnyH_done (by kernel_rfl) ?_ _
  refine NoPanic.normal ?_
  go_upto_region 3 with fail
  refine wp_region_noPanic ?_;refine wp_region_held_drew (S:=fun w'=>Kept w4.heap.size w4.heap.size w4 w') (by kernel_rfl) ((Kept.refl _ _ _).drew) (fun hH=>?_)
  obtain⟨wd,hwd⟩:∃ x,x = w4.drew:=⟨_,rfl⟩;rw [← hwd] at hH ⊢;clear hwd;refine wpAnyH_take_ex (i:=0) 19 rfl rfl (by kernel_rfl) (by kernel_rfl) (by kernel_rfl) (fun _ _ _ _ h=>h) (by kernel_rfl) hH ?_
  apply Exists.intro;apply And.intro
  ·intro w9 _
   go_simp
   first | done | rfl
  simp only [sA,sB,sC];refine wpAnyH_take_ex (i:=1) 20 rfl rfl (by kernel_rfl) (by kernel_rfl) (by kernel_rfl) (fun _ _ _ _ h=>h) (by kernel_rfl) hH ?_
  apply Exists.intro;apply And.intro
  ·intro w9 _
   go_simp
   first | done | rfl
  simp only [sA,sB,sC];refine wpAnyH_take_ex (i:=2) 21 rfl rfl (by kernel_rfl) (by kernel_rfl) (by kernel_rfl) (fun _ _ _ _ h=>h) (by kernel_rfl) hH ?_
  apply Exists.intro;apply And.intro
  ·intro w9 _
   go_simp
   first | done | rfl
  simp only [sA,sB,sC];refine wpAnyH_take_at (i:=3) 22 (.map (some bb)) rfl rfl (by kernel_rfl) (by kernel_rfl) (by kernel_rfl) (fun _ _ _ h=>h) (yieldsIf_load_known (by kernel_rfl) 47 _ rfl (sb) (34) rfl (.map (some bb)) (fun x k=>HBM.out x (row_kept R4.out k))) hH ?_
  simp only [sA,sB,sC];refine wpAnyH_take_ex (i:=4) 23 rfl rfl (by kernel_rfl) (by kernel_rfl) (by kernel_rfl) (fun _ _ _ _ h=>h) (by kernel_rfl) hH ?_
  apply Exists.intro;apply And.intro
  ·intro w9 _
   go_simp
   first | done | rfl
  simp only [sA,sB,sC];refine wpAnyH_take_at (i:=5) 24 (.agg pc) rfl rfl (by kernel_rfl) (by kernel_rfl) (by kernel_rfl) (fun _ _ _ h=>h) (yieldsIf_load_known (by kernel_rfl) 30 _ rfl (g0) (32) rfl (.agg pc) (fun x k=>HVQ.out x g0 (B4.out.kept k))) hH ?_
  simp only [sA,sB,sC];refine wpAnyH_take_at (i:=6) 25 (.map none) rfl rfl (by kernel_rfl) (by kernel_rfl) (by kernel_rfl) (fun _ _ _ h=>h) (yieldsIf_lookup15 (by kernel_rfl) 47 _ _ false rfl (.map (some bb)) (.agg pc) rfl rfl (.map none) (fun x k=>HLL.out x (M4.out.same (row_kept' k M4.out.lt)))) hH ?_
  simp only [sA,sB,sC];refine wpAnyH_take_at (i:=7) 26 (.int .i64 0) rfl rfl (by kernel_rfl) (by kernel_rfl) (by kernel_rfl) (fun _ _ _ h=>h) (yieldsIf_len15 (by kernel_rfl) _ 55 3 rfl rfl (.map none) rfl (.int .i64 0) (fun x k=>Maps.len_nil Try.underlying55 _)) hH ?_
  simp only [sA,sB,sC];refine wpAnyH_take_ex (i:=8) 27 rfl rfl (by kernel_rfl) (by kernel_rfl) (by kernel_rfl) (fun _ _ _ _ h=>h) (by kernel_rfl) hH ?_
  apply Exists.intro;apply And.intro
  ·intro w9 _
   go_simp
   first | done | rfl
  simp only [sA,sB,sC];refine wpAnyH_done (by kernel_rfl) ?_ _
  refine NoPanic.normal ?_;have K5:=hH;clear hH;generalize wd = w5 at K5 ⊢;have R5:=hid (row_kept R4.out K5);have B5:=hid (B4.out.kept K5);have M5:=hid (M4.out.same (row_kept' K5 M4.out.lt));have V5:=hid (V4.out.same (row_kept' K5 V4.out.lt));have F5:=hid (fun tb:Nat=>(F4.out tb).andKept K5)
  clear K5
  go_upto_region 4 with fail
  refine wp_region_noPanic ?_;refine wp_region_held_drew (S:=fun x=>x.heap[sb]? = some SK∧Vb x g0 v) (by kernel_rfl) (⟨R5.out,B5.out⟩) (fun hH=>?_)
  obtain⟨wd,hwd⟩:∃ x,x = w5.drew:=⟨_,rfl⟩;rw [← hwd] at hH ⊢;have V5D:=V5.out.same (w':=wd) (by rw [hwd]; rfl)
  have M5D:=M5.out.same (w':=wd) (by rw [hwd]; rfl)
  have F5D:=fun tb:Nat=>(F5.out tb).andKept (w2:=wd) (by rw [hwd]; exact(Kept.refl _ _ _).drew)
  clear hwd;refine wpAnyH_take_ex (i:=0) 28 rfl rfl (by kernel_rfl) (by kernel_rfl) (by kernel_rfl) (fun _ _ _ _ h=>h) (by kernel_rfl) hH ?_
  apply Exists.intro;apply And.intro
  ·intro w9 _
   go_simp
   first | done | rfl
  simp only [sA,sB,sC];refine wpAnyH_take_ex (i:=1) 29 rfl rfl (by kernel_rfl) (by kernel_rfl) (by kernel_rfl) (fun _ _ _ _ h=>h) (by kernel_rfl) hH ?_
  apply Exists.intro;apply And.intro
  ·intro w9 _
   go_simp
   first | done | rfl
  simp only [sA,sB,sC];refine wpAnyH_take_ex (i:=2) 30 rfl rfl (by kernel_rfl) (by kernel_rfl) (by kernel_rfl) (fun _ _ _ _ h=>h) (by kernel_rfl) hH ?_
  apply Exists.intro;apply And.intro
  ·intro w9 _
   go_simp
   first | done | rfl
  simp only [sA,sB,sC];refine wpAnyH_take_at (i:=3) 31 (.map (some bb)) rfl rfl (by kernel_rfl) (by kernel_rfl) (by kernel_rfl) (fun _ _ _ h=>h) (yieldsIf_load_known (by kernel_rfl) 47 _ rfl (sb) (34) rfl (.map (some bb)) (fun x k=>HBM.out x k.1)) hH ?_
  simp only [sA,sB,sC];refine wpAnyH_take_ex (i:=4) 32 rfl rfl (by kernel_rfl) (by kernel_rfl) (by kernel_rfl) (fun _ _ _ _ h=>h) (by kernel_rfl) hH ?_
  apply Exists.intro;apply And.intro
  ·intro w9 _
   go_simp
   first | done | rfl
  simp only [sA,sB,sC];refine wpAnyH_take_at (i:=5) 33 (.agg pc) rfl rfl (by kernel_rfl) (by kernel_rfl) (by kernel_rfl) (fun _ _ _ h=>h) (yieldsIf_load_known (by kernel_rfl) 30 _ rfl (g0) (32) rfl (.agg pc) (fun x k=>HVQ.out x g0 k.2)) hH ?_
  simp only [sA,sB,sC];refine wpAnyH_ready (rs:=[6]) (by kernel_rfl) (by simp) ?_
  refine AllReadyH.cons rfl (fun K hK=>?_) AllReadyH.nil
  rw [if_pos (by rfl)]
  obtain⟨w6,hrun,hmp6,ht6⟩:=HBD.out wd G M5D;refine wp_delete_run15 (.tmp 31) (.tmp 33) 47 30 0 rfl rfl rfl (.map (some bb)) (.agg pc) rfl rfl hrun ?_
  have KS:w6.heap[sb]? = some SK∧Vb w6 g0 v:=⟨(turned_other ht6 HSV.out.2.1).trans hH.1,(turned_other ht6 HG0.out.2.1).trans hH.2⟩;have V6:=hid (V5D.same (turned_other ht6 HSV.out.2.2.1));have M6:=hid hmp6;have F6:=hid (fun tb:Nat=>(F5D tb).turned ht6 (.inl (.inr (.inr (.inl rfl)))))
  clear hmp6 ht6 hrun;refine hK.out _ _ KS (fun hH=>?_)
  clear hK K KS;refine wpAnyH_done (by kernel_rfl) ?_ _
  refine NoPanic.normal ?_;go_wp2
  go_end0
  exact HPD.out _ _ vb V6.out M6.out (fun l y hl=>out15_sub hl) (.inl rfl) (F6.out vb)
 | some y=>
  obtain⟨ib,rfl,fib,lib,nvb,nbb,nsb,hib⟩:=HGI.out y rfl
  have HLL:Hid (∀ x:World,Mp x 30 bb n G→(Instr.lookup 47 (.map (some bb)) (.agg pc) false).run Try.prog x = .ok (.map (some ib)) x):=hid (fun x k=>by
   have h9:=HLP.out x n G k;rw [← HGL.out] at h9
   exact h9)
  have HTN:=hid (show ib≠sb∧ib≠vb∧ib≠bb∧ib≠g0 from⟨nsb,nvb,nbb,fun e=>by have:=HG0.out.2.2; omega⟩)
  have HFI:=hid fib
  have I3:=hid (hib.same ((F3.out bb).block ib lib (show ¬ Tch vb vb bb bb ib from fun h=>by
   rcases h with h | h | h | h
   ·exact nvb h
   ·exact nvb h
   ·exact nbb h
   ·exact nbb h)))
  clear fib lib nvb nbb nsb hib;refine wp_region_noPanic ?_;refine wp_region_held_drew (S:=fun x=>x.heap[sb]? = some SK∧Vb x g0 v∧Mp x 30 bb n G) (by kernel_rfl) (⟨R3.out,B3.out,M3.out⟩) (fun hH=>?_)
  obtain⟨wd,hwd⟩:∃ x,x = w3.drew:=⟨_,rfl⟩;rw [← hwd] at hH ⊢;have V3D:=V3.out.same (w':=wd) (by rw [hwd]; rfl)
  have F3D:=fun tb:Nat=>(F3.out tb).andKept (w2:=wd) (by rw [hwd]; exact(Kept.refl _ _ _).drew)
  have I3D:=I3.out.same (w':=wd) (by rw [hwd]; rfl)
  clear hwd;refine wpAnyH_take_ex (i:=0) 10 rfl rfl (by kernel_rfl) (by kernel_rfl) (by kernel_rfl) (fun _ _ _ _ h=>h) (by kernel_rfl) hH ?_
  apply Exists.intro;apply And.intro
  ·intro w9 _
   go_simp
   first | done | rfl
  simp only [sA,sB,sC];refine wpAnyH_take_ex (i:=1) 11 rfl rfl (by kernel_rfl) (by kernel_rfl) (by kernel_rfl) (fun _ _ _ _ h=>h) (by kernel_rfl) hH ?_
  apply Exists.intro;apply And.intro
  ·intro w9 _
   go_simp
   first | done | rfl
  simp only [sA,sB,sC];refine wpAnyH_take_ex (i:=2) 12 rfl rfl (by kernel_rfl) (by kernel_rfl) (by kernel_rfl) (fun _ _ _ _ h=>h) (by kernel_rfl) hH ?_
  apply Exists.intro;apply And.intro
  ·intro w9 _
   go_simp
   first | done | rfl
  simp only [sA,sB,sC];refine wpAnyH_take_at (i:=3) 13 (.map (some bb)) rfl rfl (by kernel_rfl) (by kernel_rfl) (by kernel_rfl) (fun _ _ _ h=>h) (yieldsIf_load_known (by kernel_rfl) 47 _ rfl (sb) (34) rfl (.map (some bb)) (fun x k=>HBM.out x k.1)) hH ?_
  simp only [sA,sB,sC];refine wpAnyH_take_ex (i:=4) 14 rfl rfl (by kernel_rfl) (by kernel_rfl) (by kernel_rfl) (fun _ _ _ _ h=>h) (by kernel_rfl) hH ?_
  apply Exists.intro;apply And.intro
  ·intro w9 _
   go_simp
   first | done | rfl
  simp only [sA,sB,sC];refine wpAnyH_take_at (i:=5) 15 (.agg pc) rfl rfl (by kernel_rfl) (by kernel_rfl) (by kernel_rfl) (fun _ _ _ h=>h) (yieldsIf_load_known (by kernel_rfl) 30 _ rfl (g0) (32) rfl (.agg pc) (fun x k=>HVQ.out x g0 k.2.1)) hH ?_
  simp only [sA,sB,sC];refine wpAnyH_take_at (i:=6) 16 (.map (some ib)) rfl rfl (by kernel_rfl) (by kernel_rfl) (by kernel_rfl) (fun _ _ _ h=>h) (yieldsIf_lookup15 (by kernel_rfl) 47 _ _ false rfl (.map (some bb)) (.agg pc) rfl rfl (.map (some ib)) (fun x k=>HLL.out x k.2.2)) hH ?_
  simp only [sA,sB,sC];refine wpAnyH_take_ex (i:=7) 17 rfl rfl (by kernel_rfl) (by kernel_rfl) (by kernel_rfl) (fun _ _ _ _ h=>h) (by kernel_rfl) hH ?_
  apply Exists.intro;apply And.intro
  ·intro w9 _
   go_simp
   first | done | rfl
  simp only [sA,sB,sC];refine wpAnyH_take_at (i:=8) 18 (.int .i64 vd) rfl rfl (by kernel_rfl) (by kernel_rfl) (by kernel_rfl) (fun _ _ _ h=>h) (yieldsIf_load_known (by kernel_rfl) 3 _ rfl (g0) (64) rfl (.int .i64 vd) (fun x k=>HVE.out x g0 k.2.1)) hH ?_
  simp only [sA,sB,sC];refine wpAnyH_ready (rs:=[9]) (by kernel_rfl) (by simp) ?_
  refine AllReadyH.cons rfl (fun K hK=>?_) AllReadyH.nil
  rw [if_pos (by rfl)]
  obtain⟨w4,hrun,hin4,ht4⟩:=HID.out wd ib I3D;refine wp_delete_run15 (.tmp 16) (.tmp 18) 55 3 0 rfl rfl rfl (.map (some ib)) (.int .i64 vd) rfl rfl hrun ?_
  have KS:w4.heap[sb]? = some SK∧Vb w4 g0 v∧Mp w4 30 bb n G:=⟨(turned_other ht4 (fun e=>HTN.out.1 e.symm)).trans hH.1,(turned_other ht4 (fun e=>HTN.out.2.2.2 e.symm)).trans hH.2.1,hH.2.2.same (turned_other ht4 (fun e=>HTN.out.2.2.1 e.symm))⟩
  have R4:=hid KS.1;have B4:=hid KS.2.1;have M4:=hid KS.2.2;have V4:=hid (V3D.same (turned_other ht4 (fun e=>HTN.out.2.1 e.symm)))
  have I4:=hid hin4;have F4:=hid (show ∀ tb:Nat,tb = ib→Dfr (Tch vb vb bb tb) w w4 from fun tb e=>(F3D tb).turned ht4 (.inl (.inr (.inr (.inr e.symm)))))
  clear hin4 ht4 hrun V3D F3D;refine hK.out _ _ KS (fun hH=>?_)
  clear hK K KS;refine wpAnyH_done (by kernel_rfl) ?_ _
  refine NoPanic.normal ?_
  obtain⟨c,hc⟩:∃ c:Nat,∀ x:World,x.heap[ib]? = w4.heap[ib]?→(Builtin.len_ #[55] 3 #[.map (some ib)]).run Try.prog x = .ok (.int .i64 (c:Nat)) x:=by
   obtain⟨D,hD⟩:=I4.out;exact⟨_,fun x hx=>(owns_same hD hx).len Try.underlying55 _⟩
  have HC:=hid hc;clear hc
  go_upto_region 3 with fail
  refine wp_region_noPanic ?_;refine wp_region_held_drew (S:=fun w'=>Kept w4.heap.size w4.heap.size w4 w') (by kernel_rfl) ((Kept.refl _ _ _).drew) (fun hH=>?_)
  obtain⟨wd,hwd⟩:∃ x,x = w4.drew:=⟨_,rfl⟩;rw [← hwd] at hH ⊢;clear hwd;refine wpAnyH_take_ex (i:=0) 19 rfl rfl (by kernel_rfl) (by kernel_rfl) (by kernel_rfl) (fun _ _ _ _ h=>h) (by kernel_rfl) hH ?_
  apply Exists.intro;apply And.intro
  ·intro w9 _
   go_simp
   first | done | rfl
  simp only [sA,sB,sC];refine wpAnyH_take_ex (i:=1) 20 rfl rfl (by kernel_rfl) (by kernel_rfl) (by kernel_rfl) (fun _ _ _ _ h=>h) (by kernel_rfl) hH ?_
  apply Exists.intro;apply And.intro
  ·intro w9 _
   go_simp
   first | done | rfl
  simp only [sA,sB,sC];refine wpAnyH_take_ex (i:=2) 21 rfl rfl (by kernel_rfl) (by kernel_rfl) (by kernel_rfl) (fun _ _ _ _ h=>h) (by kernel_rfl) hH ?_
  apply Exists.intro;apply And.intro
  ·intro w9 _
   go_simp
   first | done | rfl
  simp only [sA,sB,sC];refine wpAnyH_take_at (i:=3) 22 (.map (some bb)) rfl rfl (by kernel_rfl) (by kernel_rfl) (by kernel_rfl) (fun _ _ _ h=>h) (yieldsIf_load_known (by kernel_rfl) 47 _ rfl (sb) (34) rfl (.map (some bb)) (fun x k=>HBM.out x (row_kept R4.out k))) hH ?_
  simp only [sA,sB,sC];refine wpAnyH_take_ex (i:=4) 23 rfl rfl (by kernel_rfl) (by kernel_rfl) (by kernel_rfl) (fun _ _ _ _ h=>h) (by kernel_rfl) hH ?_
  apply Exists.intro;apply And.intro
  ·intro w9 _
   go_simp
   first | done | rfl
  simp only [sA,sB,sC];refine wpAnyH_take_at (i:=5) 24 (.agg pc) rfl rfl (by kernel_rfl) (by kernel_rfl) (by kernel_rfl) (fun _ _ _ h=>h) (yieldsIf_load_known (by kernel_rfl) 30 _ rfl (g0) (32) rfl (.agg pc) (fun x k=>HVQ.out x g0 (B4.out.kept k))) hH ?_
  simp only [sA,sB,sC];refine wpAnyH_take_at (i:=6) 25 (.map (some ib)) rfl rfl (by kernel_rfl) (by kernel_rfl) (by kernel_rfl) (fun _ _ _ h=>h) (yieldsIf_lookup15 (by kernel_rfl) 47 _ _ false rfl (.map (some bb)) (.agg pc) rfl rfl (.map (some ib)) (fun x k=>HLL.out x (M4.out.same (row_kept' k M4.out.lt)))) hH ?_
  simp only [sA,sB,sC];refine wpAnyH_take_at (i:=7) 26 (.int .i64 (c:Nat)) rfl rfl (by kernel_rfl) (by kernel_rfl) (by kernel_rfl) (fun _ _ _ h=>h) (yieldsIf_len15 (by kernel_rfl) _ 55 3 rfl rfl (.map (some ib)) rfl (.int .i64 (c:Nat)) (fun x k=>HC.out x (row_kept' k I4.out.lt))) hH ?_
  simp only [sA,sB,sC];refine wpAnyH_take_ex (i:=8) 27 rfl rfl (by kernel_rfl) (by kernel_rfl) (by kernel_rfl) (fun _ _ _ _ h=>h) (by kernel_rfl) hH ?_
  apply Exists.intro;apply And.intro
  ·intro w9 _
   go_simp
   first | done | rfl
  simp only [sA,sB,sC];refine wpAnyH_done (by kernel_rfl) ?_ _
  refine NoPanic.normal ?_;have K5:=hH;clear hH;generalize wd = w5 at K5 ⊢;have R5:=hid (row_kept R4.out K5);have B5:=hid (B4.out.kept K5);have M5:=hid (M4.out.same (row_kept' K5 M4.out.lt));have V5:=hid (V4.out.same (row_kept' K5 V4.out.lt));have F5:=hid (fun(tb:Nat) (e:tb = ib)=>(F4.out tb e).andKept K5)
  have I5:=hid (I4.out.same (row_kept' K5 I4.out.lt));clear K5
  by_cases hz:(c:Int) = 0
  ·have hz':(((c:Nat):Int) == 0) = true:=by simpa using hz
   have hzn:(c == 0) = true:=by simpa using hz
   clear hz
   go_upto_region 4 with fail
   refine wp_region_noPanic ?_;refine wp_region_held_drew (S:=fun x=>x.heap[sb]? = some SK∧Vb x g0 v) (by kernel_rfl) (⟨R5.out,B5.out⟩) (fun hH=>?_)
   obtain⟨wd,hwd⟩:∃ x,x = w5.drew:=⟨_,rfl⟩;rw [← hwd] at hH ⊢;have V5D:=V5.out.same (w':=wd) (by rw [hwd]; rfl)
   have M5D:=M5.out.same (w':=wd) (by rw [hwd]; rfl)
   have F5D:=fun(tb:Nat) (e:tb = ib)=>(F5.out tb e).andKept (w2:=wd) (by rw [hwd]; exact(Kept.refl _ _ _).drew)
   have I5D:=I5.out.same (w':=wd) (by rw [hwd]; rfl)
   clear hwd;refine wpAnyH_take_ex (i:=0) 28 rfl rfl (by kernel_rfl) (by kernel_rfl) (by kernel_rfl) (fun _ _ _ _ h=>h) (by kernel_rfl) hH ?_
   apply Exists.intro;apply And.intro
   ·intro w9 _
    go_simp
    first | done | rfl
   simp only [sA,sB,sC];refine wpAnyH_take_ex (i:=1) 29 rfl rfl (by kernel_rfl) (by kernel_rfl) (by kernel_rfl) (fun _ _ _ _ h=>h) (by kernel_rfl) hH ?_
   apply Exists.intro;apply And.intro
   ·intro w9 _
    go_simp
    first | done | rfl
   simp only [sA,sB,sC];refine wpAnyH_take_ex (i:=2) 30 rfl rfl (by kernel_rfl) (by kernel_rfl) (by kernel_rfl) (fun _ _ _ _ h=>h) (by kernel_rfl) hH ?_
   apply Exists.intro;apply And.intro
   ·intro w9 _
    go_simp
    first | done | rfl
   simp only [sA,sB,sC];refine wpAnyH_take_at (i:=3) 31 (.map (some bb)) rfl rfl (by kernel_rfl) (by kernel_rfl) (by kernel_rfl) (fun _ _ _ h=>h) (yieldsIf_load_known (by kernel_rfl) 47 _ rfl (sb) (34) rfl (.map (some bb)) (fun x k=>HBM.out x k.1)) hH ?_
   simp only [sA,sB,sC];refine wpAnyH_take_ex (i:=4) 32 rfl rfl (by kernel_rfl) (by kernel_rfl) (by kernel_rfl) (fun _ _ _ _ h=>h) (by kernel_rfl) hH ?_
   apply Exists.intro;apply And.intro
   ·intro w9 _
    go_simp
    first | done | rfl
   simp only [sA,sB,sC];refine wpAnyH_take_at (i:=5) 33 (.agg pc) rfl rfl (by kernel_rfl) (by kernel_rfl) (by kernel_rfl) (fun _ _ _ h=>h) (yieldsIf_load_known (by kernel_rfl) 30 _ rfl (g0) (32) rfl (.agg pc) (fun x k=>HVQ.out x g0 k.2)) hH ?_
   simp only [sA,sB,sC];refine wpAnyH_ready (rs:=[6]) (by kernel_rfl) (by simp) ?_
   refine AllReadyH.cons rfl (fun K hK=>?_) AllReadyH.nil
   rw [if_pos (by rfl)]
   obtain⟨w6,hrun,hmp6,ht6⟩:=HBD.out wd G M5D;refine wp_delete_run15 (.tmp 31) (.tmp 33) 47 30 0 rfl rfl rfl (.map (some bb)) (.agg pc) rfl rfl hrun ?_
   have KS:w6.heap[sb]? = some SK∧Vb w6 g0 v:=⟨(turned_other ht6 HSV.out.2.1).trans hH.1,(turned_other ht6 HG0.out.2.1).trans hH.2⟩;have V6:=hid (V5D.same (turned_other ht6 HSV.out.2.2.1));have M6:=hid hmp6;have F6:=hid (fun(tb:Nat) (e:tb = ib)=>(F5D tb e).turned ht6 (.inl (.inr (.inr (.inl rfl)))))
   have J6:=hid (I5D.same (turned_other ht6 HTN.out.2.2.1));clear hmp6 ht6 hrun;refine hK.out _ _ KS (fun hH=>?_)
   clear hK K KS;refine wpAnyH_done (by kernel_rfl) ?_ _
   refine NoPanic.normal ?_;go_wp2
   go_end0
   exact HPD.out _ _ ib V6.out M6.out (fun l y hl=>out15_sub hl) (.inr ⟨HFI.out,HTN.out.1,J6.out⟩) (F6.out ib rfl)
  ·have hz':(((c:Nat):Int) == 0) = false:=by simpa using hz
   have hzn:(c == 0) = false:=by simpa using hz
   clear hz;go_wp2
   go_end0
   exact HPD.out _ _ ib V5.out M5.out (fun l y hl=>hl) (.inr ⟨HFI.out,HTN.out.1,I5.out⟩) (F5.out ib rfl)
end Go.Proofs.Ytfbfdaeagpdaiaa
