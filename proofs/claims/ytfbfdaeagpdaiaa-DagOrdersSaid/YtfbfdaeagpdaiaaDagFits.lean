/-
 The landed fits.
-/
import Derived.Test.YtfbfdaeagpdaiaaDagHead
import Derived.Maps.RangeWalk
set_option maxRecDepth 100000
set_option maxHeartbeats 12800000
namespace Go.Proofs.Ytfbfdaeagpdaiaa
open Go.RowKit Go.Lib
open List renaming setIfInBounds_toArray → sA, set_cons_zero → sB, set_cons_succ → sC
open BigFrame renaming wpList_want → wQ
section
variable {P:Program} {o:Oper} {a:Act} {w w':World} {K:Act→World→Prop} {Q:Exit→Act→World→Prop}
theorem wp_range_run15 (t:TypeId)(m:Operand)(ho:o.op = .range t m)(d:Option Tmp)(hd:o.dst = d)(v:Value)(hm:a.eval m = v){u:Value}(hr:(Instr.range t v).run P w = .ok u w')(h:K (a.put d u) w'):o.wp P a w K Q:=by
 subst hd;unfold Oper.wp execOp;simp only [ho,hm,Sem.run_bind,hr,Result.andThen_ok,Sem.run_pure];exact h
end
theorem row_kept' {w x:World}(k:Kept w.heap.size w.heap.size w x){b:Nat}(h:b < w.heap.size):x.heap[b]? = w.heap[b]?:=k.block b h (Nat.ne_of_lt h)
theorem behind_look {w:World}{bb n:Nat}{G:Lit→Option Value}(hG:Mp w 30 bb n G){i:List UInt8}(hi:i.length = 32):(Instr.lookup 47 (.map (some bb)) (.agg (bcells i).toArray) false).run Try.prog w = .ok ((G (.string i)).getD (.map none)) w:=
 hG.look hash_keyed Try.underlying47 (by kernel_rfl) (keyOf_hash i hi)
def Suits (L:List Vx)(P:List (List UInt8))(v:Vx):Prop:=(∀ u∈L,u.id = v.par→u.dep = v.dep - 1)∧v.id∉P
def FitsB (L:List Vx)(P:List (List UInt8))(v:Vx)(w:World)(e:Ending)(w':World):Prop:=∃ b:Bool,e = .returned (.bool b)∧(Suits L P v→b = true)∧Kept w.heap.size w.heap.size w w'
theorem fits15 {sb n:Nat}{F:Nat→Prop}{keep:Int}{L:List Vx}{h:Option Vx}{P:List (List UInt8)}(w:World)(ds:Dst w sb F keep n L h P)(v:Vx)(hv:v.Ok)(hv0:0≤v.dep)(hv1:v.dep≤4611686018427387903):
  Calls Try.prog 20 #[.pointer (some ⟨sb,0,none⟩),v.val] w (FitsB L P v w):=by
 obtain⟨vb,bb,hd,d⟩:=ds;obtain⟨G,hG,hGv⟩:=d.bp;have hok:=look_ok15 (fun v hv=>(d.st.ok v hv).1) v.par
 have HLK:=hid (fun(x:World) (k:Kept w.heap.size w.heap.size w x)=>(d.kept k).vp.look_ok hv.2)
 have HVM:=hid (fun(x:World) (k:Kept w.heap.size w.heap.size w x)=>load_map15 (d.kept k).at_vert)
 have HBM:=hid (fun(x:World) (k:Kept w.heap.size w.heap.size w x)=>load_behind15 (d.kept k).at_behind)
 have HBL:=hid (fun(x:World) (k:Kept w.heap.size w.heap.size w x)=>behind_look (hG.same (row_kept' k (d.lt bb d.fb))) hv.1)
 have HVI:=hid (fun(x:World) (g:Nat) (hg:Vb x g v)=>hg.lid hv)
 have HVP:=hid (fun(x:World) (g:Nat) (hg:Vb x g v)=>hg.lpar hv)
 have HVD:=hid (fun(x:World) (g:Nat) (hg:Vb x g v)=>hg.dep hv)
 have HCI:=hid (vxSize15 hok);have HCS:=hid (show((look L v.par).getD Vx.zero).cells.toArray.size = 66 by rw [List.size_toArray,Vx.cells_length hok])
 have HCA:=hid (Vx.cells_all ((look L v.par).getD Vx.zero));have HUD:=hid (fun(x:World) (g:Nat) (hg:Vb x g ((look L v.par).getD Vx.zero))=>hg.dep hok)
 have HSU:Hid (Suits L P v→(look L v.par).isSome = true→((look L v.par).getD Vx.zero).dep = v.dep - 1):=hid (fun hs hi=>by
  cases hl:look L v.par with
  | none=>rw [hl] at hi; cases hi
  | some u=>exact hs.1 u (look_some hl).1 (look_some hl).2)
 have HSG:Hid (Suits L P v→G (.string v.id) = none):=hid (fun hs=>by
  cases hl:G (.string v.id) with
  | none=>rfl
  | some y=>
   obtain⟨⟨p,hp,e⟩,_⟩:=hGv _ _ hl;injection e with e
   exact absurd (e ▸ hp) hs.2)
 have HGI:Hid (∀ y,G (.string v.id) = some y→∃ ib D,y = .map (some ib)∧ib < w.heap.size∧w.ownsMap Try.prog 3 (unitElem (H:=Value)) ib n D):=hid (fun y hy=>by
  obtain⟨_,ib,e,f1,_,_,D,hD⟩:=hGv _ _ hy
  exact⟨ib,D,e,d.lt ib f1,hD⟩)
 obtain⟨vd,hvd⟩:∃ x,x = v.dep:=⟨_,rfl⟩;rw [← hvd] at HVD HSU hv0 hv1;have HVW:=hid (show ∀ (x:World) (g:Nat),x.heap[g]? = some (.cells v.cells.toArray 36 (0,0))→Vb x g v from fun x g h=>h)
 have HUW:=hid (show ∀ (x:World) (g:Nat),x.heap[g]? = some (.cells ((look L v.par).getD Vx.zero).cells.toArray 36 (0,0))→Vb x g ((look L v.par).getD Vx.zero) from fun x g h=>h)
 have HVK:=hid (show ∀ (x y:World) (g:Nat),Vb x g v→Kept x.heap.size x.heap.size x y→Vb y g v from fun x y g h k=>h.kept k)
 have HUK:=hid (show ∀ (x y:World) (g:Nat),Vb x g ((look L v.par).getD Vx.zero)→Kept x.heap.size x.heap.size x y→Vb y g ((look L v.par).getD Vx.zero) from fun x y g h k=>h.kept k)
 unfold Vx.val at HLK ⊢;obtain⟨ud,hud⟩:∃ x,x = ((look L v.par).getD Vx.zero).dep:=⟨_,rfl⟩;rw [← hud] at HUD HSU;generalize hub:(look L v.par).getD Vx.zero = U at *;generalize U.cells.toArray = CC at HLK HCI HCS HCA HUW;generalize (look L v.par).isSome = ob at HLK HSU;generalize v.cells.toArray = VC at HVW ⊢;generalize (bcells v.par).toArray = pc at HLK HVP;generalize (bcells v.id).toArray = ic at HVI HBL;obtain⟨ZC,hZC⟩:∃ x,x = Vx.zero.cells.toArray:=⟨_,rfl⟩;have HZE:=hid hZC.symm;have HZS:=hid (show ZC.size = 66 by rw [hZC,List.size_toArray,Vx.cells_length Vx.zero_ok])
 obtain⟨gl,hgl⟩:∃ x,x = G (.string v.id):=⟨_,rfl⟩;rw [← hgl] at HBL HSG HGI;have HFB:=hid (show ∀ (b:Bool) (w':World),(Suits L P v→b = true)→Kept w.heap.size w.heap.size w w'→FitsB L P v w (.returned (.bool b)) w' from fun b w' h1 h2=>⟨b,rfl,h1,h2⟩)
 obtain⟨SU,hsu⟩:∃ x,x = Suits L P v:=⟨_,rfl⟩;rw [← hsu] at HSU HSG HFB;clear hsu;clear d hG hGv hok hv hZC hvd hgl hub hud
 go_enter Try.func20,Try.ntmps20
 go_upto_region 0 with fail
 refine wp_region_lit ?_;iterate 2 (refine @wQ _ _ _ _ _ _ _ ?_ ?_;kernel_rfl;intro K hK;go_simp;refine hK _ _ ?_;clear hK K)
 have k2:Kept w.heap.size w.heap.size w (w.alloc (.cells VC 36)):=(Kept.refl _ _ _).alloc (Nat.le_refl _) _
 have b1:=HVW.out _ _ (heap_new w (.cells VC 36))
 obtain⟨g0,hg0⟩:∃ x,x = w.heap.size:=⟨_,rfl⟩;rw [← hg0] at b1;generalize w.alloc (.cells VC 36) = w2 at k2 b1 ⊢
 rw [← hg0];have K2:=hid k2;have B1:=hid b1;clear k2 b1 hg0
 go_upto_region 1 with fail
 refine wp_region_noPanic ?_;refine wp_region_heldTo 12 (S:=fun x=>Kept w2.heap.size w2.heap.size w2 x) (by kernel_rfl) ((Kept.refl w2.heap.size w2.heap.size w2).drew) (fun hH=>?_)
 obtain⟨wd,hwd⟩:∃ x,x = w2.drew:=⟨_,rfl⟩;rw [← hwd] at hH ⊢;clear hwd;refine heldTo_take_ex (i:=0) 9 rfl rfl (by kernel_rfl) (by kernel_rfl) (by kernel_rfl) (by kernel_rfl) (fun _ _ _ _ h=>h) (by kernel_rfl) hH ?_
 apply Exists.intro;apply And.intro
 ·intro w9 h9
  go_simp
  first | done | rfl
 simp only [sA,sB,sC];refine heldTo_take_ex (i:=1) 10 rfl rfl (by kernel_rfl) (by kernel_rfl) (by kernel_rfl) (by kernel_rfl) (fun _ _ _ _ h=>h) (by kernel_rfl) hH ?_
 apply Exists.intro;apply And.intro
 ·intro w9 h9
  go_simp
  first | done | rfl
 simp only [sA,sB,sC];refine heldTo_take_ex (i:=2) 11 rfl rfl (by kernel_rfl) (by kernel_rfl) (by kernel_rfl) (by kernel_rfl) (fun _ _ _ _ h=>h) (by kernel_rfl) hH ?_
 apply Exists.intro;apply And.intro
 ·intro w9 h9
  go_simp
  first | done | rfl
 simp only [sA,sB,sC];refine heldTo_take (i:=3) 12 (.map (some vb)) rfl rfl (by kernel_rfl) (by kernel_rfl) (by kernel_rfl) (by kernel_rfl) (fun _ _ _ h=>h) (yieldsIf_load_known (by kernel_rfl) 46 _ rfl (sb) (1) rfl (.map (some vb)) (fun x k=>HVM.out x (K2.out.onto k))) hH ?_
 simp only [sA,sB,sC];refine heldTo_take_ex (i:=4) 13 rfl rfl (by kernel_rfl) (by kernel_rfl) (by kernel_rfl) (by kernel_rfl) (fun _ _ _ _ h=>h) (by kernel_rfl) hH ?_
 apply Exists.intro;apply And.intro
 ·intro w9 h9
  go_simp
  first | done | rfl
 simp only [sA,sB,sC];refine heldTo_take (i:=5) 14 (.agg pc) rfl rfl (by kernel_rfl) (by kernel_rfl) (by kernel_rfl) (by kernel_rfl) (fun _ _ _ h=>h) (yieldsIf_load_known (by kernel_rfl) 30 _ rfl (g0) (32) rfl (.agg pc) (fun x k=>HVP.out x g0 (HVK.out _ _ _ B1.out k))) hH ?_
 simp only [sA,sB,sC];refine heldTo_take (i:=6) 15 (.tuple #[.agg CC,.bool ob]) rfl rfl (by kernel_rfl) (by kernel_rfl) (by kernel_rfl) (by kernel_rfl) (fun _ _ _ h=>h) (yieldsIf_lookup15 (by kernel_rfl) 46 _ _ true rfl (.map (some vb)) (.agg pc) rfl rfl (.tuple #[.agg CC,.bool ob]) (fun x k=>HLK.out x (K2.out.onto k))) hH ?_
 simp only [sA,sB,sC];refine heldTo_take_ex (i:=7) 8 rfl rfl (by kernel_rfl) (by kernel_rfl) (by kernel_rfl) (by kernel_rfl) (fun _ _ _ _ h=>h) (by kernel_rfl) hH ?_
 apply Exists.intro;apply And.intro
 ·intro w9 h9
  go_simp
  first | done | rfl
 simp only [sA,sB,sC];refine heldTo_take_ex (i:=8) 16 rfl rfl (by kernel_rfl) (by kernel_rfl) (by kernel_rfl) (by kernel_rfl) (fun _ _ _ _ h=>h) (by kernel_rfl) hH ?_
 apply Exists.intro;apply And.intro
 ·intro w9 h9
  go_simp
  first | done | rfl
 simp only [sA,sB,sC];refine heldTo_take_ex (i:=9) 17 rfl rfl (by kernel_rfl) (by kernel_rfl) (by kernel_rfl) (by kernel_rfl) (fun _ _ _ _ h=>h) (by kernel_rfl) hH ?_
 apply Exists.intro;apply And.intro
 ·intro w9 h9
  go_simp
  first | done | rfl
 simp only [sA,sB,sC];refine heldTo_one (i:=10) (by kernel_rfl) rfl (fun K hK=>?_)
 rw [if_pos (by rfl)]
 have er:=alloc_vx15 wd;have ho:=heap_new wd (.cells ZC 36)
 have ka:=hH.onto (kA wd (.cells ZC 36))
 obtain⟨gb,hgb⟩:∃ x,x = wd.heap.size:=⟨_,rfl⟩;have HGgb:=hid (show w2.heap.size≤gb by rw [hgb]; exact hH.size)
 rw [HZE.out] at er;rw [← hgb] at er ho;generalize wd.alloc (.cells ZC 36) = wa at er ho ka ⊢
 refine wp_alloc_known15 36 rfl (some 5) rfl _ er ?_
 simp only [Act.put,sA,sB,sC];have Kwa:=hid ka;have Rwa:=hid ho;clear er ho ka hgb;refine hK.out _ _ Kwa.out (fun hH=>?_)
 clear hK K;refine heldTo_one (i:=11) (by kernel_rfl) rfl (fun K hK=>?_)
 rw [if_pos (by rfl)]
 refine wp_store_row_none11 36 _ _ rfl rfl gb CC rfl rfl 36 ZC Rwa.out HCI.out (by rw [HCS.out,HZS.out]) HCA.out ?_
 have hs:=setRow_heap15 wa gb CC Rwa.out;have ka:=kept_setRow10 Kwa.out gb HGgb.out CC;generalize wa.setRow gb CC = wb at hs ka ⊢;have Kwb:=hid ka;have Rwb:=hid hs;clear hs ka;refine hK.out _ _ Kwb.out (fun hH=>?_)
 clear hK K;refine heldTo_last (by kernel_rfl) rfl (fun K hK=>?_)
 rw [if_pos (by rfl)]
 go_simp;refine hK _ _ ?_;clear hK K;refine heldTo_done (by kernel_rfl) ?_ _
 refine NoPanic.normal ?_;clear hH;have K3:=hid (K2.out.onto Kwb.out);have B3:=hid (HVK.out _ _ _ B1.out Kwb.out);have U3:=hid (HUW.out _ _ Rwb.out);have dv:=HVD.out _ _ B3.out;have du:=HUD.out _ _ U3.out;have hwr:=i64_in15 (vd - 1) (by omega)
 cases ob with
 | false=>
  clear HSU du
  go_upto_region 2 with fail
  refine wp_region_lit ?_;iterate 2 (refine @wQ _ _ _ _ _ _ _ ?_ ?_;kernel_rfl;intro K hK;go_simp;refine hK _ _ ?_;clear hK K)
  refine @wpList_skip _ _ _ _ _ _ _ ?_ ?_;kernel_rfl;simp only [Act.put,sA,sB,sC];refine @wpList_skip _ _ _ _ _ _ _ ?_ ?_;kernel_rfl;simp only [Act.put,sA,sB,sC];refine @wpList_skip _ _ _ _ _ _ _ ?_ ?_;kernel_rfl;simp only [Act.put,sA,sB,sC];refine @wpList_skip _ _ _ _ _ _ _ ?_ ?_;kernel_rfl;simp only [Act.put,sA,sB,sC];refine @wpList_skip _ _ _ _ _ _ _ ?_ ?_;kernel_rfl;simp only [Act.put,sA,sB,sC];refine @wpList_skip _ _ _ _ _ _ _ ?_ ?_;kernel_rfl;simp only [Act.put,sA,sB,sC];refine @wQ _ _ _ _ _ _ _ ?_ ?_;kernel_rfl;intro K hK;go_simp;refine hK _ _ ?_;clear hK K
  cases gl with
  | none=>
   simp only [Option.getD_none] at HBL
   go_upto_region 4 with fail
   refine wp_region_noPanic ?_;refine wp_region_held_drew (S:=fun w'=>Kept wb.heap.size wb.heap.size wb w') (by kernel_rfl) ((Kept.refl _ _ _).drew) (fun hH=>?_)
   obtain⟨wd,hwd⟩:∃ x,x = wb.drew:=⟨_,rfl⟩;rw [← hwd] at hH ⊢;clear hwd;refine wpAnyH_take_ex (i:=0) 27 rfl rfl (by kernel_rfl) (by kernel_rfl) (by kernel_rfl) (fun _ _ _ _ h=>h) (by kernel_rfl) hH ?_
   apply Exists.intro;apply And.intro
   ·intro w9 _
    go_simp
    first | done | rfl
   simp only [sA,sB,sC];refine wpAnyH_take_ex (i:=1) 28 rfl rfl (by kernel_rfl) (by kernel_rfl) (by kernel_rfl) (fun _ _ _ _ h=>h) (by kernel_rfl) hH ?_
   apply Exists.intro;apply And.intro
   ·intro w9 _
    go_simp
    first | done | rfl
   simp only [sA,sB,sC];refine wpAnyH_take_ex (i:=2) 29 rfl rfl (by kernel_rfl) (by kernel_rfl) (by kernel_rfl) (fun _ _ _ _ h=>h) (by kernel_rfl) hH ?_
   apply Exists.intro;apply And.intro
   ·intro w9 _
    go_simp
    first | done | rfl
   simp only [sA,sB,sC];refine wpAnyH_take_at (i:=3) 30 (.map (some bb)) rfl rfl (by kernel_rfl) (by kernel_rfl) (by kernel_rfl) (fun _ _ _ h=>h) (yieldsIf_load_known (by kernel_rfl) 47 _ rfl (sb) (34) rfl (.map (some bb)) (fun x k=>HBM.out x (K3.out.onto k))) hH ?_
   simp only [sA,sB,sC];refine wpAnyH_take_ex (i:=4) 31 rfl rfl (by kernel_rfl) (by kernel_rfl) (by kernel_rfl) (fun _ _ _ _ h=>h) (by kernel_rfl) hH ?_
   apply Exists.intro;apply And.intro
   ·intro w9 _
    go_simp
    first | done | rfl
   simp only [sA,sB,sC];refine wpAnyH_take_at (i:=5) 32 (.agg ic) rfl rfl (by kernel_rfl) (by kernel_rfl) (by kernel_rfl) (fun _ _ _ h=>h) (yieldsIf_load_known (by kernel_rfl) 30 _ rfl (g0) (0) rfl (.agg ic) (fun x k=>HVI.out x g0 (HVK.out _ _ _ B3.out k))) hH ?_
   simp only [sA,sB,sC];refine wpAnyH_take_at (i:=6) 33 (.map none) rfl rfl (by kernel_rfl) (by kernel_rfl) (by kernel_rfl) (fun _ _ _ h=>h) (yieldsIf_lookup15 (by kernel_rfl) 47 _ _ false rfl (.map (some bb)) (.agg ic) rfl rfl (.map none) (fun x k=>HBL.out x (K3.out.onto k))) hH ?_
   simp only [sA,sB,sC];refine wpAnyH_ready (rs:=[7]) (by kernel_rfl) (by simp) ?_
   refine AllReadyH.cons rfl (fun K hK=>?_) AllReadyH.nil
   rw [if_pos (by rfl)]
   refine wp_range_run15 55 (.tmp 33) rfl (some 34) rfl (.map none) rfl (run_range_nilMap wd 55 3 56 Try.underlying55) ?_
   simp only [Act.put,sA,sB,sC];have k4:=hH.onto (kA wd (.mapIter none 0 #[] 0));have hnx:∀ ty,(Instr.next (.pointer (some ⟨wd.heap.size,0,none⟩)) false ty).run Try.prog (wd.alloc (.mapIter none 0 #[] 0)) = .ok (.tuple #[.bool false]) (wd.alloc (.mapIter none 0 #[] 0)):=fun ty=>run_next_nilMap wd ty 0 0 #[]
   generalize wd.alloc (.mapIter none 0 #[] 0) = w4 at k4 hnx ⊢;generalize wd.heap.size = rg at hnx ⊢;have K4:=hid k4;refine hK.out _ _ k4 (fun hH=>?_)
   clear hK K k4;refine wpAnyH_done (by kernel_rfl) ?_ _
   refine NoPanic.normal ?_;go_wp2;refine wp_loop_rounds 1 ?_;rw [rounds_succ];go_wp2;go_ret;exact HFB.out _ _ (fun _=>rfl) (K3.out.onto K4.out)
  | some y=>
   obtain⟨ib,D,rfl,hib,hD⟩:=HGI.out y rfl;simp only [Option.getD_some] at HBL;have HGB:=hid (show g0 < wb.heap.size from lt_of_block B3.out)
   go_upto_region 4 with fail
   refine wp_region_noPanic ?_;refine wp_region_held_drew (S:=fun w'=>Kept wb.heap.size wb.heap.size wb w') (by kernel_rfl) ((Kept.refl _ _ _).drew) (fun hH=>?_)
   obtain⟨wd,hwd⟩:∃ x,x = wb.drew:=⟨_,rfl⟩;rw [← hwd] at hH ⊢;clear hwd;refine wpAnyH_take_ex (i:=0) 27 rfl rfl (by kernel_rfl) (by kernel_rfl) (by kernel_rfl) (fun _ _ _ _ h=>h) (by kernel_rfl) hH ?_
   apply Exists.intro;apply And.intro
   ·intro w9 _
    go_simp
    first | done | rfl
   simp only [sA,sB,sC];refine wpAnyH_take_ex (i:=1) 28 rfl rfl (by kernel_rfl) (by kernel_rfl) (by kernel_rfl) (fun _ _ _ _ h=>h) (by kernel_rfl) hH ?_
   apply Exists.intro;apply And.intro
   ·intro w9 _
    go_simp
    first | done | rfl
   simp only [sA,sB,sC];refine wpAnyH_take_ex (i:=2) 29 rfl rfl (by kernel_rfl) (by kernel_rfl) (by kernel_rfl) (fun _ _ _ _ h=>h) (by kernel_rfl) hH ?_
   apply Exists.intro;apply And.intro
   ·intro w9 _
    go_simp
    first | done | rfl
   simp only [sA,sB,sC];refine wpAnyH_take_at (i:=3) 30 (.map (some bb)) rfl rfl (by kernel_rfl) (by kernel_rfl) (by kernel_rfl) (fun _ _ _ h=>h) (yieldsIf_load_known (by kernel_rfl) 47 _ rfl (sb) (34) rfl (.map (some bb)) (fun x k=>HBM.out x (K3.out.onto k))) hH ?_
   simp only [sA,sB,sC];refine wpAnyH_take_ex (i:=4) 31 rfl rfl (by kernel_rfl) (by kernel_rfl) (by kernel_rfl) (fun _ _ _ _ h=>h) (by kernel_rfl) hH ?_
   apply Exists.intro;apply And.intro
   ·intro w9 _
    go_simp
    first | done | rfl
   simp only [sA,sB,sC];refine wpAnyH_take_at (i:=5) 32 (.agg ic) rfl rfl (by kernel_rfl) (by kernel_rfl) (by kernel_rfl) (fun _ _ _ h=>h) (yieldsIf_load_known (by kernel_rfl) 30 _ rfl (g0) (0) rfl (.agg ic) (fun x k=>HVI.out x g0 (HVK.out _ _ _ B3.out k))) hH ?_
   simp only [sA,sB,sC];refine wpAnyH_take_at (i:=6) 33 (.map (some ib)) rfl rfl (by kernel_rfl) (by kernel_rfl) (by kernel_rfl) (fun _ _ _ h=>h) (yieldsIf_lookup15 (by kernel_rfl) 47 _ _ false rfl (.map (some bb)) (.agg ic) rfl rfl (.map (some ib)) (fun x k=>HBL.out x (K3.out.onto k))) hH ?_
   simp only [sA,sB,sC];refine wpAnyH_ready (rs:=[7]) (by kernel_rfl) (by simp) ?_
   refine AllReadyH.cons rfl (fun K hK=>?_) AllReadyH.nil
   rw [if_pos (by rfl)]
   obtain⟨w4,hrun,hrg4,hg4,hs4⟩:=(owns_same hD (w':=wd) (row_kept' (K3.out.onto hH) hib)).range int_keyed3 Try.underlying55
   refine wp_range_run15 55 (.tmp 33) rfl (some 34) rfl (.map (some ib)) rfl hrun ?_
   simp only [Act.put,sA,sB,sC];have K4:=hid (hH.grown hg4 hH.size (fun k e=>nomatch e))
   have HRG:=hid hrg4;have HRS:=hid (show wb.heap.size≤wd.heap.size from hH.size);clear hrg4 hg4 hs4 hrun hD;generalize wd.heap.size = rg at HRG HRS ⊢;refine hK.out _ _ K4.out (fun hH=>?_)
   clear hK K;refine wpAnyH_done (by kernel_rfl) ?_ _
   refine NoPanic.normal ?_;have HB4:=hid (HVK.out _ _ _ B3.out K4.out);have HVB:=hid (fun(x:World) (k:Kept rg rg w4 x)=>show Vb x g0 v from(k.block g0 (Nat.lt_of_lt_of_le HGB.out HRS.out) (Nat.ne_of_lt (Nat.lt_of_lt_of_le HGB.out HRS.out))).trans HB4.out)
   go_wp2
   go_loopw [7] (fun s7 wr=>∃ (left:Lit→Bool) (cnt:Nat),wr.ranges Try.prog 3 (unitElem (H:=Value)) ib rg n D left cnt∧Hid (Kept rg rg w4 wr)) (fun _ wr=>wr.rangeLeft ib rg)
   case atStart=>exact⟨_,_,HRG.out,hid (Kept.refl _ _ _)⟩
   case round=>
    obtain⟨left,cnt,hrg,hk⟩:=hrel
    go_wp2_with (at_next; refine wpList_next_ranges _ rfl _ rfl 3 int_keyed3 (unitElem (H:=Value)) (Value.int .i64) (fun _:Unit=>Value.agg #[]) (fun key kl hkey=>by obtain⟨x,rfl,_⟩:=Maps.keyOf_int_inv Try.underlying3 hkey; exact⟨x,rfl⟩) (fun y z hy=>⟨(),(unitElem_inv hy).1⟩) ib rg n _ _ _ rfl hrg ?_ ?_)
    ·intro _ _
     go_wp2;go_ret;exact HFB.out _ _ (fun _=>rfl) (K3.out.onto (K4.out.trans (hk.out.mono HRS.out (fun k hk _=>by have:=HRS.out; omega))))
    ·intro x c kl y w1 cnt1 hkey _ _ _ hrg1 hlt hg1 hs1 hen
     have hk1:=hk.out.grown hg1 (Nat.le_trans (Nat.le_of_lt hrg.lt) (Nat.le_refl _) |> fun e=>e) (fun k e=>by cases e; exact Nat.le_refl _)
     have HK1:=hid hk1;have dv1:=HVD.out w1 g0 (HVB.out _ hk1);have hadd:=i64_in15 (vd + 1) (by omega)
     by_cases hx:x = vd + 1
     ·have hx':(x == vd + 1) = true:=by simpa using hx
      go_wp2
      go_roundw
      case rel=>exact⟨_,cnt1,hrg1,HK1⟩
      case measure=>rw [hrg1.left_eq,hrg.left_eq]; exact hlt
     ·have hx':(x == vd + 1) = false:=by simpa using hx
      go_wp2;go_ret;exact HFB.out _ _ (fun hs=>absurd (HSG.out hs) (by simp)) (K3.out.onto (K4.out.trans (HK1.out.mono HRS.out (fun k hk _=>by have:=HRS.out; omega))))
 | true=>
  by_cases he:ud = vd - 1
  ·have he':(ud == IntKind.i64.wrap (vd - 1)) = true:=by rw [hwr]; simpa using he
   have he2:(ud == vd - 1) = true:=by simpa using he
   have HEE:=hid he;clear he
   go_upto_region 2 with fail
   refine wp_region_lit ?_;iterate 9 (refine @wQ _ _ _ _ _ _ _ ?_ ?_;kernel_rfl;intro K hK;go_simp;refine hK _ _ ?_;clear hK K)
   cases gl with
   | none=>
    simp only [Option.getD_none] at HBL
    go_upto_region 4 with fail
    refine wp_region_noPanic ?_;refine wp_region_held_drew (S:=fun w'=>Kept wb.heap.size wb.heap.size wb w') (by kernel_rfl) ((Kept.refl _ _ _).drew) (fun hH=>?_)
    obtain⟨wd,hwd⟩:∃ x,x = wb.drew:=⟨_,rfl⟩;rw [← hwd] at hH ⊢;clear hwd;refine wpAnyH_take_ex (i:=0) 27 rfl rfl (by kernel_rfl) (by kernel_rfl) (by kernel_rfl) (fun _ _ _ _ h=>h) (by kernel_rfl) hH ?_
    apply Exists.intro;apply And.intro
    ·intro w9 _
     go_simp
     first | done | rfl
    simp only [sA,sB,sC];refine wpAnyH_take_ex (i:=1) 28 rfl rfl (by kernel_rfl) (by kernel_rfl) (by kernel_rfl) (fun _ _ _ _ h=>h) (by kernel_rfl) hH ?_
    apply Exists.intro;apply And.intro
    ·intro w9 _
     go_simp
     first | done | rfl
    simp only [sA,sB,sC];refine wpAnyH_take_ex (i:=2) 29 rfl rfl (by kernel_rfl) (by kernel_rfl) (by kernel_rfl) (fun _ _ _ _ h=>h) (by kernel_rfl) hH ?_
    apply Exists.intro;apply And.intro
    ·intro w9 _
     go_simp
     first | done | rfl
    simp only [sA,sB,sC];refine wpAnyH_take_at (i:=3) 30 (.map (some bb)) rfl rfl (by kernel_rfl) (by kernel_rfl) (by kernel_rfl) (fun _ _ _ h=>h) (yieldsIf_load_known (by kernel_rfl) 47 _ rfl (sb) (34) rfl (.map (some bb)) (fun x k=>HBM.out x (K3.out.onto k))) hH ?_
    simp only [sA,sB,sC];refine wpAnyH_take_ex (i:=4) 31 rfl rfl (by kernel_rfl) (by kernel_rfl) (by kernel_rfl) (fun _ _ _ _ h=>h) (by kernel_rfl) hH ?_
    apply Exists.intro;apply And.intro
    ·intro w9 _
     go_simp
     first | done | rfl
    simp only [sA,sB,sC];refine wpAnyH_take_at (i:=5) 32 (.agg ic) rfl rfl (by kernel_rfl) (by kernel_rfl) (by kernel_rfl) (fun _ _ _ h=>h) (yieldsIf_load_known (by kernel_rfl) 30 _ rfl (g0) (0) rfl (.agg ic) (fun x k=>HVI.out x g0 (HVK.out _ _ _ B3.out k))) hH ?_
    simp only [sA,sB,sC];refine wpAnyH_take_at (i:=6) 33 (.map none) rfl rfl (by kernel_rfl) (by kernel_rfl) (by kernel_rfl) (fun _ _ _ h=>h) (yieldsIf_lookup15 (by kernel_rfl) 47 _ _ false rfl (.map (some bb)) (.agg ic) rfl rfl (.map none) (fun x k=>HBL.out x (K3.out.onto k))) hH ?_
    simp only [sA,sB,sC];refine wpAnyH_ready (rs:=[7]) (by kernel_rfl) (by simp) ?_
    refine AllReadyH.cons rfl (fun K hK=>?_) AllReadyH.nil
    rw [if_pos (by rfl)]
    refine wp_range_run15 55 (.tmp 33) rfl (some 34) rfl (.map none) rfl (run_range_nilMap wd 55 3 56 Try.underlying55) ?_
    simp only [Act.put,sA,sB,sC];have k4:=hH.onto (kA wd (.mapIter none 0 #[] 0));have hnx:∀ ty,(Instr.next (.pointer (some ⟨wd.heap.size,0,none⟩)) false ty).run Try.prog (wd.alloc (.mapIter none 0 #[] 0)) = .ok (.tuple #[.bool false]) (wd.alloc (.mapIter none 0 #[] 0)):=fun ty=>run_next_nilMap wd ty 0 0 #[]
    generalize wd.alloc (.mapIter none 0 #[] 0) = w4 at k4 hnx ⊢;generalize wd.heap.size = rg at hnx ⊢;have K4:=hid k4;refine hK.out _ _ k4 (fun hH=>?_)
    clear hK K k4;refine wpAnyH_done (by kernel_rfl) ?_ _
    refine NoPanic.normal ?_;go_wp2;refine wp_loop_rounds 1 ?_;rw [rounds_succ];go_wp2;go_ret;exact HFB.out _ _ (fun _=>rfl) (K3.out.onto K4.out)
   | some y=>
    obtain⟨ib,D,rfl,hib,hD⟩:=HGI.out y rfl;simp only [Option.getD_some] at HBL;have HGB:=hid (show g0 < wb.heap.size from lt_of_block B3.out)
    go_upto_region 4 with fail
    refine wp_region_noPanic ?_;refine wp_region_held_drew (S:=fun w'=>Kept wb.heap.size wb.heap.size wb w') (by kernel_rfl) ((Kept.refl _ _ _).drew) (fun hH=>?_)
    obtain⟨wd,hwd⟩:∃ x,x = wb.drew:=⟨_,rfl⟩;rw [← hwd] at hH ⊢;clear hwd;refine wpAnyH_take_ex (i:=0) 27 rfl rfl (by kernel_rfl) (by kernel_rfl) (by kernel_rfl) (fun _ _ _ _ h=>h) (by kernel_rfl) hH ?_
    apply Exists.intro;apply And.intro
    ·intro w9 _
     go_simp
     first | done | rfl
    simp only [sA,sB,sC];refine wpAnyH_take_ex (i:=1) 28 rfl rfl (by kernel_rfl) (by kernel_rfl) (by kernel_rfl) (fun _ _ _ _ h=>h) (by kernel_rfl) hH ?_
    apply Exists.intro;apply And.intro
    ·intro w9 _
     go_simp
     first | done | rfl
    simp only [sA,sB,sC];refine wpAnyH_take_ex (i:=2) 29 rfl rfl (by kernel_rfl) (by kernel_rfl) (by kernel_rfl) (fun _ _ _ _ h=>h) (by kernel_rfl) hH ?_
    apply Exists.intro;apply And.intro
    ·intro w9 _
     go_simp
     first | done | rfl
    simp only [sA,sB,sC];refine wpAnyH_take_at (i:=3) 30 (.map (some bb)) rfl rfl (by kernel_rfl) (by kernel_rfl) (by kernel_rfl) (fun _ _ _ h=>h) (yieldsIf_load_known (by kernel_rfl) 47 _ rfl (sb) (34) rfl (.map (some bb)) (fun x k=>HBM.out x (K3.out.onto k))) hH ?_
    simp only [sA,sB,sC];refine wpAnyH_take_ex (i:=4) 31 rfl rfl (by kernel_rfl) (by kernel_rfl) (by kernel_rfl) (fun _ _ _ _ h=>h) (by kernel_rfl) hH ?_
    apply Exists.intro;apply And.intro
    ·intro w9 _
     go_simp
     first | done | rfl
    simp only [sA,sB,sC];refine wpAnyH_take_at (i:=5) 32 (.agg ic) rfl rfl (by kernel_rfl) (by kernel_rfl) (by kernel_rfl) (fun _ _ _ h=>h) (yieldsIf_load_known (by kernel_rfl) 30 _ rfl (g0) (0) rfl (.agg ic) (fun x k=>HVI.out x g0 (HVK.out _ _ _ B3.out k))) hH ?_
    simp only [sA,sB,sC];refine wpAnyH_take_at (i:=6) 33 (.map (some ib)) rfl rfl (by kernel_rfl) (by kernel_rfl) (by kernel_rfl) (fun _ _ _ h=>h) (yieldsIf_lookup15 (by kernel_rfl) 47 _ _ false rfl (.map (some bb)) (.agg ic) rfl rfl (.map (some ib)) (fun x k=>HBL.out x (K3.out.onto k))) hH ?_
    simp only [sA,sB,sC];refine wpAnyH_ready (rs:=[7]) (by kernel_rfl) (by simp) ?_
    refine AllReadyH.cons rfl (fun K hK=>?_) AllReadyH.nil
    rw [if_pos (by rfl)]
    obtain⟨w4,hrun,hrg4,hg4,hs4⟩:=(owns_same hD (w':=wd) (row_kept' (K3.out.onto hH) hib)).range int_keyed3 Try.underlying55
    refine wp_range_run15 55 (.tmp 33) rfl (some 34) rfl (.map (some ib)) rfl hrun ?_
    simp only [Act.put,sA,sB,sC];have K4:=hid (hH.grown hg4 hH.size (fun k e=>nomatch e))
    have HRG:=hid hrg4;have HRS:=hid (show wb.heap.size≤wd.heap.size from hH.size);clear hrg4 hg4 hs4 hrun hD;generalize wd.heap.size = rg at HRG HRS ⊢;refine hK.out _ _ K4.out (fun hH=>?_)
    clear hK K;refine wpAnyH_done (by kernel_rfl) ?_ _
    refine NoPanic.normal ?_;have HB4:=hid (HVK.out _ _ _ B3.out K4.out);have HVB:=hid (fun(x:World) (k:Kept rg rg w4 x)=>show Vb x g0 v from(k.block g0 (Nat.lt_of_lt_of_le HGB.out HRS.out) (Nat.ne_of_lt (Nat.lt_of_lt_of_le HGB.out HRS.out))).trans HB4.out)
    go_wp2
    go_loopw [7] (fun s7 wr=>∃ (left:Lit→Bool) (cnt:Nat),wr.ranges Try.prog 3 (unitElem (H:=Value)) ib rg n D left cnt∧Hid (Kept rg rg w4 wr)) (fun _ wr=>wr.rangeLeft ib rg)
    case atStart=>exact⟨_,_,HRG.out,hid (Kept.refl _ _ _)⟩
    case round=>
     obtain⟨left,cnt,hrg,hk⟩:=hrel
     go_wp2_with (at_next; refine wpList_next_ranges _ rfl _ rfl 3 int_keyed3 (unitElem (H:=Value)) (Value.int .i64) (fun _:Unit=>Value.agg #[]) (fun key kl hkey=>by obtain⟨x,rfl,_⟩:=Maps.keyOf_int_inv Try.underlying3 hkey; exact⟨x,rfl⟩) (fun y z hy=>⟨(),(unitElem_inv hy).1⟩) ib rg n _ _ _ rfl hrg ?_ ?_)
     ·intro _ _
      go_wp2;go_ret;exact HFB.out _ _ (fun _=>rfl) (K3.out.onto (K4.out.trans (hk.out.mono HRS.out (fun k hk _=>by have:=HRS.out; omega))))
     ·intro x c kl y w1 cnt1 hkey _ _ _ hrg1 hlt hg1 hs1 hen
      have hk1:=hk.out.grown hg1 (Nat.le_trans (Nat.le_of_lt hrg.lt) (Nat.le_refl _) |> fun e=>e) (fun k e=>by cases e; exact Nat.le_refl _)
      have HK1:=hid hk1;have dv1:=HVD.out w1 g0 (HVB.out _ hk1);have hadd:=i64_in15 (vd + 1) (by omega)
      by_cases hx:x = vd + 1
      ·have hx':(x == vd + 1) = true:=by simpa using hx
       go_wp2
       go_roundw
       case rel=>exact⟨_,cnt1,hrg1,HK1⟩
       case measure=>rw [hrg1.left_eq,hrg.left_eq]; exact hlt
      ·have hx':(x == vd + 1) = false:=by simpa using hx
       go_wp2;go_ret;exact HFB.out _ _ (fun hs=>absurd (HSG.out hs) (by simp)) (K3.out.onto (K4.out.trans (HK1.out.mono HRS.out (fun k hk _=>by have:=HRS.out; omega))))
  ·have he':(ud == IntKind.i64.wrap (vd - 1)) = false:=by rw [hwr]; simpa using he
   have he2:(ud == vd - 1) = false:=by simpa using he
   have HEE:=hid he;clear he
   go_upto_region 2 with fail
   refine wp_region_lit ?_;iterate 9 (refine @wQ _ _ _ _ _ _ _ ?_ ?_;kernel_rfl;intro K hK;go_simp;refine hK _ _ ?_;clear hK K)
   go_wp2;go_ret;exact HFB.out _ _ (fun hs=>absurd (HSU.out hs trivial) HEE.out) K3.out
end Go.Proofs.Ytfbfdaeagpdaiaa
