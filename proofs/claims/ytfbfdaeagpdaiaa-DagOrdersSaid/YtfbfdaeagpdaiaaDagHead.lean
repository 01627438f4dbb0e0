/-
 The landed Head, Len, Floor and New.
-/
import Derived.Test.YtfbfdaeagpdaiaaDagGet
set_option maxRecDepth 100000
set_option maxHeartbeats 3200000
namespace Go.Proofs.Ytfbfdaeagpdaiaa
open Go.RowKit Go.Lib
open List renaming setIfInBounds_toArray → sA, set_cons_zero → sB, set_cons_succ → sC
open BigFrame renaming wpList_want → wQ
theorem i64_in15 (n:Int)(h : -9223372036854775808≤n∧n≤9223372036854775807):IntKind.i64.wrap n = n:=by rw [IntKind.wrap_i64]; omega
theorem Ds.at_head {sb vb bb n:Nat}{F:Nat→Prop}{keep:Int}{L:List Vx}{h:Option Vx}{P:List (List UInt8)}{hd:List UInt8}{w:World}(d:Ds w sb F keep n L h P vb bb hd):w.rangeAt sb 2 (bcells hd):=fun j u hu=>by
 refine cells_get d.blk ?_;rw [show 2 + j = j + 1 + 1 by omega]
 simp only [scells,List.getElem?_cons_succ];rw [List.getElem?_append_left (List.getElem?_eq_some_iff.1 hu).1];exact hu
def head2 (h:Option Vx):Ending:=.returned (.tuple #[(h.getD Vx.zero).val,.bool h.isSome])
theorem head_ok15 {L:List Vx}{h:Option Vx}(s:Dg.St0 L h):(h.getD Vx.zero).Ok:=by
 cases h with
 | none=>exact Vx.zero_ok
 | some v=>exact(s.ok v s.top.1).1
theorem head15 {sb n:Nat}{F:Nat→Prop}{keep:Int}{L:List Vx}{h:Option Vx}{P:List (List UInt8)}(w:World)(ds:Dst w sb F keep n L h P):
  Calls Try.prog 8 #[.pointer (some ⟨sb,0,none⟩)] w fun e w'=>e = head2 h∧Kept w.heap.size w.heap.size w w':=by
 obtain⟨vb,bb,hd,d⟩:=ds;have hok:=head_ok15 d.st;have HGE:=hid (fun(x:World) (k:Kept w.heap.size w.heap.size w x)=>get15 x (d.kept k) hd d.hd32)
 have HLD:=hid (fun(x:World) (k:Kept w.heap.size w.heap.size w x)=>load_hash15 d.hd32 (d.kept k).at_head)
 have HLE:Hid (look2 L hd = head2 h):=hid (by unfold look2 head2; rw [d.nil_keep])
 rw [HLE.out] at HGE;have HHE:Hid (head2 h = .returned (.tuple #[.agg (h.getD Vx.zero).cells.toArray,.bool h.isSome])):=hid rfl;have HCI:=hid (vxSize15 hok);have HCS:=hid (show(h.getD Vx.zero).cells.toArray.size = 66 by rw [List.size_toArray,Vx.cells_length hok])
 have HCA:=hid (Vx.cells_all (h.getD Vx.zero));obtain⟨ex,hex⟩:∃ x,x = head2 h:=⟨_,rfl⟩;rw [← hex] at HHE HGE ⊢;generalize (h.getD Vx.zero).cells.toArray = CC at HHE HCI HCS HCA;generalize h.isSome = ob at HHE;generalize (bcells hd).toArray = ic at HGE HLD;obtain⟨ZC,hZC⟩:∃ x,x = Vx.zero.cells.toArray:=⟨_,rfl⟩;have HZE:=hid hZC.symm;have HZS:=hid (show ZC.size = 66 by rw [hZC,List.size_toArray,Vx.cells_length Vx.zero_ok])
 rw [HHE.out] at HGE;clear d hok hex hZC HLE
 go_enter Try.func8,Try.ntmps8
 go_upto_region 0 with fail
 refine wp_region_lit ?_;refine @wpL_alloc _ _ _ _ _ _ _ _ ?_ 36 rfl _ (alloc_vx15 _) ?_;kernel_rfl
 simp only [Act.put,sA,sB,sC];refine @wQ _ _ _ _ _ _ _ ?_ ?_;kernel_rfl;intro K hK;go_simp;refine hK _ _ ?_;clear hK K;rw [HZE.out];have k2:Kept w.heap.size w.heap.size w (w.alloc (.cells ZC 36)):=(Kept.refl _ _ _).alloc (Nat.le_refl _) _
 have b2:(w.alloc (.cells ZC 36)).heap[w.heap.size]? = some (.cells ZC 36 (0,0)):=heap_new w _
 obtain⟨g1,hg1⟩:∃ x,x = w.heap.size:=⟨_,rfl⟩;have HG1:=hid (show w.heap.size≤g1 by omega)
 rw [← hg1] at b2;generalize w.alloc (.cells ZC 36) = w2 at k2 b2 ⊢
 rw [← hg1];have K2:=hid k2;have B2:=hid b2;clear k2 b2 hg1
 go_upto_region 3 with fail
 refine wp_region_lit ?_;iterate 4 (refine @wQ _ _ _ _ _ _ _ ?_ ?_;kernel_rfl;intro K hK;go_simp;refine hK _ _ ?_;clear hK K)
 refine @wpList_load_known _ _ _ _ _ _ _ ?_ 30 (.tmp 10) rfl (sb) (2) rfl (.agg ic) (HLD.out _ K2.out) ?_;kernel_rfl
 simp only [Act.put,sA,sB,sC];refine @wQ _ _ _ _ _ _ _ ?_ ?_;kernel_rfl;intro K hK;go_simp;go_at_call 11
 refine(HGE.out _ K2.out).mono ?_;rintro e w3 ⟨rfl,k3⟩;refine hK _ _ ?_;clear hK K;iterate 2 (refine @wQ _ _ _ _ _ _ _ ?_ ?_;kernel_rfl;intro K hK;go_simp;refine hK _ _ ?_;clear hK K)
 have B3:=hid (row_kept B2.out k3);have K3:=hid (K2.out.onto k3);clear k3;refine wpList_store_row rfl 36 _ _ rfl g1 CC rfl rfl 36 ZC B3.out HCI.out (by rw [HCS.out,HZS.out]) HCA.out ?_
 simp only [Act.put];have hs:=setRow_heap15 w3 g1 CC B3.out;have ka:=kept_setRow10 K3.out g1 HG1.out CC;generalize w3.setRow g1 CC = wc at hs ka ⊢;refine @wQ _ _ _ _ _ _ _ ?_ ?_;kernel_rfl;intro K hK;go_simp;refine hK _ _ ?_;clear hK K;go_wp2;refine bodyPost_ret (results_cell_tmp15 rfl _ _ g1 36 CC (0,0) _ (.bool ob) rfl rfl hs Try.underlying36 rfl HCI.out) rfl ?_
 exact⟨HHE.out.symm,ka⟩
theorem len15 {sb n:Nat}{F:Nat→Prop}{keep:Int}{L:List Vx}{h:Option Vx}{P:List (List UInt8)}(w:World)(ds:Dst w sb F keep n L h P):
  Calls Try.prog 9 #[.pointer (some ⟨sb,0,none⟩)] w fun e w'=>e = .returned (.int .i64 (L.length:Nat))∧w' = w:=by
 obtain⟨vb,bb,hd,d⟩:=ds;have c1:=d.at_vert;have hl:=fun ty=>d.vp.len ty
 obtain⟨ll,hll⟩:∃ x,x = L.length:=⟨_,rfl⟩;rw [← hll] at hl ⊢;clear d hll
 go_enter Try.func9,Try.ntmps9
 go_wp2;go_ret;exact⟨rfl,rfl⟩
theorem floor15 {sb n:Nat}{F:Nat→Prop}{keep:Int}{L:List Vx}{h:Option Vx}{P:List (List UInt8)}(w:World)(ds:Dst w sb F keep n L h P):
  Calls Try.prog 12 #[.pointer (some ⟨sb,0,none⟩)] w fun e w'=>e = .returned (.int .i64 (Dg.floor keep h))∧Kept w.heap.size w.heap.size w w':=by
 have HHD:=hid (head15 w ds);obtain⟨vb,bb,hd,d⟩:=ds;have hok:=head_ok15 d.st;have HLK:=hid (fun(x:World) (k:Kept w.heap.size w.heap.size w x)=>load_int15 (d.kept k).at_keep)
 obtain⟨hk1,hk2⟩:=d.kp;obtain⟨ZC,hZC⟩:∃ x,x = Vx.zero.cells.toArray:=⟨_,rfl⟩;have HZE:=hid hZC.symm;have HZS:=hid (show ZC.size = 66 by rw [hZC,List.size_toArray,Vx.cells_length Vx.zero_ok])
 cases h with
 | none=>
  have HHE:Hid (head2 none = .returned (.tuple #[.agg ZC,.bool false])):=hid (by rw [hZC]; rfl)
  have HCI:=hid (show(Try.prog.info? 36).map (·.size) = some ZC.size by rw [hZC]; exact vxSize15 Vx.zero_ok)
  have HCA:=hid (show ZC.all (·.oneCell') = true by rw [hZC]; exact Vx.cells_all _)
  rw [HHE.out] at HHD;have HFL:=hid (show Dg.floor keep none = 0 from rfl);rw [HFL.out];clear d hok hZC
  go_enter Try.func12,Try.ntmps12
  go_upto_region 1 with fail
  refine wp_region_lit ?_;refine @wQ _ _ _ _ _ _ _ ?_ ?_;kernel_rfl;intro K hK;go_simp;refine hK _ _ ?_;clear hK K;refine @wQ _ _ _ _ _ _ _ ?_ ?_;kernel_rfl;intro K hK;go_simp;go_at_call 8
  refine(HHD.out).mono ?_;rintro e w1 ⟨rfl,k1⟩;have K1:=hid k1;clear k1;refine hK _ _ ?_;clear hK K;iterate 3 (refine @wQ _ _ _ _ _ _ _ ?_ ?_;kernel_rfl;intro K hK;go_simp;refine hK _ _ ?_;clear hK K)
  refine @wpL_alloc _ _ _ _ _ _ _ _ ?_ 36 rfl _ (alloc_vx15 _) ?_;kernel_rfl
  simp only [Act.put,sA,sB,sC];rw [HZE.out];refine wpList_store_row rfl 36 _ _ rfl (w1.heap.size) ZC rfl rfl 36 ZC (heap_new _ _) (HCI.out) (rfl) (HCA.out) ?_
  simp only [Act.put];rw [World.setRow_alloc_new];refine @wQ _ _ _ _ _ _ _ ?_ ?_;kernel_rfl;intro K hK;go_simp;refine hK _ _ ?_;clear hK K;have hka:=K1.out.alloc K1.out.size (.cells ZC 36)
  generalize w1.alloc (.cells ZC 36) = w2 at hka ⊢
  go_wp2;go_ret;exact⟨rfl,hka⟩
 | some v=>
  obtain⟨_,hv0,hv1⟩:=d.st.ok v d.st.top.1;have hok2:v.Ok:=hok;have HHE:Hid (head2 (some v) = .returned (.tuple #[.agg v.cells.toArray,.bool true])):=hid rfl;have HCI:=hid (vxSize15 hok2);have HCS:=hid (show v.cells.toArray.size = 66 by rw [List.size_toArray,Vx.cells_length hok2])
  have HCA:=hid (Vx.cells_all v);have HLV:=hid (fun(x:World) (g:Nat) (hg:x.heap[g]? = some (.cells v.cells.toArray 36 (0,0)))=>Vb.ldep (w:=x) (g:=g) hg hok2)
  rw [HHE.out] at HHD;have HFL:=hid (show Dg.floor keep (some v) = max (v.dep - keep) 0 from rfl);rw [HFL.out];obtain⟨vd,hvd⟩:∃ x,x = v.dep:=⟨_,rfl⟩;rw [← hvd] at hv0 hv1 HLV ⊢;generalize v.cells.toArray = CC at HHD HCI HCS HCA HLV;clear d hok hok2 hZC HHE hvd
  go_enter Try.func12,Try.ntmps12
  go_upto_region 1 with fail
  refine wp_region_lit ?_;refine @wQ _ _ _ _ _ _ _ ?_ ?_;kernel_rfl;intro K hK;go_simp;refine hK _ _ ?_;clear hK K;refine @wQ _ _ _ _ _ _ _ ?_ ?_;kernel_rfl;intro K hK;go_simp;go_at_call 8
  refine(HHD.out).mono ?_;rintro e w1 ⟨rfl,k1⟩;have K1:=hid k1;clear k1;refine hK _ _ ?_;clear hK K;iterate 3 (refine @wQ _ _ _ _ _ _ _ ?_ ?_;kernel_rfl;intro K hK;go_simp;refine hK _ _ ?_;clear hK K)
  refine @wpL_alloc _ _ _ _ _ _ _ _ ?_ 36 rfl _ (alloc_vx15 _) ?_;kernel_rfl
  simp only [Act.put,sA,sB,sC];rw [HZE.out];refine wpList_store_row rfl 36 _ _ rfl (w1.heap.size) CC rfl rfl 36 ZC (heap_new _ _) (HCI.out) (by rw [HCS.out,HZS.out]) (HCA.out) ?_
  simp only [Act.put];rw [World.setRow_alloc_new];refine @wQ _ _ _ _ _ _ _ ?_ ?_;kernel_rfl;intro K hK;go_simp;refine hK _ _ ?_;clear hK K;have b3:(w1.alloc (.cells CC 36)).heap[w1.heap.size]? = some (.cells CC 36 (0,0)):=heap_new w1 _
  have hka:=K1.out.alloc K1.out.size (.cells CC 36)
  obtain⟨g1,hg1⟩:∃ x,x = w1.heap.size:=⟨_,rfl⟩;rw [← hg1] at b3;generalize w1.alloc (.cells CC 36) = w2 at hka b3 ⊢
  rw [← hg1];have K2:=hid hka;have B2:=hid b3;clear hka b3 hg1
  go_upto_region 4 with fail
  refine wp_region_noPanic ?_;refine wp_region_heldTo 8 (S:=fun x=>Kept w2.heap.size w2.heap.size w2 x) (by kernel_rfl) ((Kept.refl w2.heap.size w2.heap.size w2).drew) (fun hH=>?_)
  refine heldTo_take_ex (i:=0) 12 rfl rfl (by kernel_rfl) (by kernel_rfl) (by kernel_rfl) (by kernel_rfl) (fun _ _ _ _ h=>h) (by kernel_rfl) hH ?_
  apply Exists.intro;apply And.intro
  ·intro w9 h9
   go_simp
   first | done | rfl
  simp only [sA,sB,sC];refine heldTo_take (i:=1) 13 (.int .i64 vd) rfl rfl (by kernel_rfl) (by kernel_rfl) (by kernel_rfl) (by kernel_rfl) (fun _ _ _ h=>h) (yieldsIf_load_known (by kernel_rfl) 3 _ rfl (g1) (64) rfl (.int .i64 vd) (fun x k=>HLV.out x g1 (row_kept B2.out k))) hH ?_
  simp only [sA,sB,sC];refine heldTo_take_ex (i:=2) 14 rfl rfl (by kernel_rfl) (by kernel_rfl) (by kernel_rfl) (by kernel_rfl) (fun _ _ _ _ h=>h) (by kernel_rfl) hH ?_
  apply Exists.intro;apply And.intro
  ·intro w9 h9
   go_simp
   first | done | rfl
  simp only [sA,sB,sC];refine heldTo_take_ex (i:=3) 15 rfl rfl (by kernel_rfl) (by kernel_rfl) (by kernel_rfl) (by kernel_rfl) (fun _ _ _ _ h=>h) (by kernel_rfl) hH ?_
  apply Exists.intro;apply And.intro
  ·intro w9 h9
   go_simp
   first | done | rfl
  simp only [sA,sB,sC];refine heldTo_take_ex (i:=4) 16 rfl rfl (by kernel_rfl) (by kernel_rfl) (by kernel_rfl) (by kernel_rfl) (fun _ _ _ _ h=>h) (by kernel_rfl) hH ?_
  apply Exists.intro;apply And.intro
  ·intro w9 h9
   go_simp
   first | done | rfl
  simp only [sA,sB,sC];refine heldTo_take (i:=5) 17 (.int .i64 keep) rfl rfl (by kernel_rfl) (by kernel_rfl) (by kernel_rfl) (by kernel_rfl) (fun _ _ _ h=>h) (yieldsIf_load_known (by kernel_rfl) 3 _ rfl (sb) (0) rfl (.int .i64 keep) (fun x k=>HLK.out x (K2.out.onto k))) hH ?_
  simp only [sA,sB,sC];refine heldTo_take_ex (i:=6) 18 rfl rfl (by kernel_rfl) (by kernel_rfl) (by kernel_rfl) (by kernel_rfl) (fun _ _ _ _ h=>h) (by kernel_rfl) hH ?_
  apply Exists.intro;apply And.intro
  ·intro w9 h9
   go_simp
   first | done | rfl
  simp only [sA,sB,sC];refine heldTo_take_ex (i:=7) 19 rfl rfl (by kernel_rfl) (by kernel_rfl) (by kernel_rfl) (by kernel_rfl) (fun _ _ _ _ h=>h) (by kernel_rfl) hH ?_
  apply Exists.intro;apply And.intro
  ·intro w9 h9
   go_simp
   first | done | rfl
  simp only [sA,sB,sC];refine heldTo_last (by kernel_rfl) rfl (fun K hK=>?_)
  rw [if_pos (by rfl)]
  go_simp;refine hK _ _ ?_;clear hK K;refine heldTo_done (by kernel_rfl) ?_ _
  refine NoPanic.normal ?_;have K4:=hH;clear hH;go_wp2;go_ret;exact⟨by rw [i64_in15 (vd - keep) (by omega)]; rfl,K2.out.onto K4⟩
theorem wpL_makeMap15 {P:Program}{ops:Array Oper}{rest:List Oper}{o:Oper}{a:Act}{w w':World}{Q:Exit→Act→World→Prop}(hw:Region.wanted o (yielded ops a.tmps) = true)(t:TypeId)(ho:o.op = .makeMap t none){u:Value}(hr:(Instr.makeMap t none).run P w = .ok u w')(hk:wpList P ops Q rest (a.put o.dst u) w'):wpList P ops Q (o :: rest) a w:=by
 refine wpList_step fun K hK=>?_
 rw [if_pos hw];unfold Oper.wp execOp;simp only [ho,Option.map_none,Sem.run_bind,hr,Result.andThen_ok,Sem.run_pure];exact hK _ _ hk
theorem kernelStore15 (w:World)(keep:Int)(a b:Nat):(Instr.build 49 #[(0,.int .i64 keep),(1,.map (some a)),(3,.map (some b))]).run Try.prog w = .ok (.agg (scells keep a (List.replicate 32 0) b).toArray) w:=by kernel_rfl
theorem makeBehind15 (w:World):(Instr.makeMap 47 none).run Try.prog w = .ok (.map (some w.heap.size)) (w.alloc (.map #[] 0)):=by kernel_rfl
theorem makeIn15 (w:World):(Instr.makeMap 55 none).run Try.prog w = .ok (.map (some w.heap.size)) (w.alloc (.map #[] 0)):=by kernel_rfl
theorem makeMap15 (w:World):(Instr.makeMap 46 none).run Try.prog w = .ok (.map (some w.heap.size)) (w.alloc (.map #[] 0)):=by kernel_rfl
theorem new15 (keep:Int)(hk:1≤keep∧keep≤64)(w:World):
  Calls Try.prog 6 #[.int .i64 keep] w fun e w'=>e = .returned (.tuple #[.pointer (some ⟨w.heap.size + 2,0,none⟩),.int .i64 0])∧Kept w.heap.size w.heap.size w w'∧w'.heap.size = w.heap.size + 3∧Dst w' (w.heap.size + 2) (fun k=>w.heap.size≤k∧k < w.heap.size + 3) keep 0 [] none []:=by
 obtain⟨hk1,hk2⟩:=hk;have hn1:¬ keep < 1:=by omega
 have hn2:¬ keep > 64:=by omega
 have HP:=hid (show ∀ x,x = ((w.alloc (.map #[] 0)).alloc (.map #[] 0)).alloc (.cells (scells keep w.heap.size (List.replicate 32 0) (w.heap.size + 1)).toArray 49)→Kept w.heap.size w.heap.size w x∧x.heap.size = w.heap.size + 3∧Dst x (w.heap.size + 2) (fun k=>w.heap.size≤k∧k < w.heap.size + 3) keep 0 [] none [] from fun x hx=>by
  have e0:x.heap[w.heap.size]? = some (.map #[] 0):=by
   rw [hx,Below.heap_alloc _ _ _ (by simp; omega),Below.heap_alloc _ _ _ (by simp)]
   exact heap_new w _
  have e1:x.heap[w.heap.size + 1]? = some (.map #[] 0):=by
   rw [hx,Below.heap_alloc _ _ _ (by simp)]
   exact heap_alloc2_last w _ _
  have e2:x.heap[w.heap.size + 2]? = some (.cells (scells keep w.heap.size (List.replicate 32 0) (w.heap.size + 1)).toArray 49 (0,0)):=by
   have:=heap_new ((w.alloc (.map #[] 0)).alloc (.map #[] 0)) (.cells (scells keep w.heap.size (List.replicate 32 0) (w.heap.size + 1)).toArray 49)
   rw [hx]
   simpa using this
  refine⟨?_,by rw [hx]; simp,w.heap.size,w.heap.size + 1,List.replicate 32 0,?_⟩
  ·rw [hx]
   exact(((Kept.refl _ _ _).alloc (Nat.le_refl _) _).alloc (by simp) _).alloc (by simp; omega) _
  ·refine⟨e2,by simp,?_,?_,⟨by omega,by omega⟩,⟨by omega,by omega⟩,⟨by omega,by omega⟩,by omega,fun k hk=>(by rw [hx]; simp; omega),fun v hv=>(by cases hv),Dg.St0.empty,⟨hk1,hk2⟩,by omega⟩
   ·exact(Vp.made w).same (e0.trans (heap_new w _).symm)
   ·refine⟨fun _=>none,?_,fun l v h=>by cases h⟩
    have:=Mp.made (w.alloc (.map #[] 0)) 30
    have hz:(w.alloc (.map #[] 0)).heap.size = w.heap.size + 1:=by simp
    rw [hz] at this
    exact this.same (e1.trans (heap_alloc2_last w _ _).symm))
 go_enter Try.func6,Try.ntmps6
 go_upto_region 3 with fail
 refine wp_region_lit ?_;refine @wQ _ _ _ _ _ _ _ ?_ ?_;kernel_rfl;intro K hK;go_simp;refine hK _ _ ?_;clear hK K;refine @wpL_makeMap15 _ _ _ _ _ _ _ _ ?_ 46 rfl _ (makeMap15 _) ?_;kernel_rfl
 simp only [Act.put,sA,sB,sC];refine @wpL_makeMap15 _ _ _ _ _ _ _ _ ?_ 47 rfl _ (makeBehind15 _) ?_;kernel_rfl
 simp only [Act.put,sA,sB,sC];rw [World.size_alloc];refine @wpL_buildN _ _ _ _ _ _ _ ?_ 49 _ rfl #[(0,.int .i64 keep),(1,.map (some w.heap.size)),(3,.map (some (w.heap.size + 1)))] (by kernel_rfl) _ (kernelStore15 _ keep _ _) ?_;kernel_rfl
 simp only [Act.put,sA,sB,sC];refine @wQ _ _ _ _ _ _ _ ?_ ?_;kernel_rfl;intro K hK;go_simp;refine hK _ _ ?_;clear hK K;go_wp2;refine bodyPost_ret (results_tmp2 rfl _ _ _) rfl ?_;exact⟨rfl,HP.out _ rfl⟩
end Go.Proofs.Ytfbfdaeagpdaiaa
