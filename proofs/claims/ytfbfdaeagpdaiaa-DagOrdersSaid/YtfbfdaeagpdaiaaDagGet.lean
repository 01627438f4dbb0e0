/-
 The landed Get.
-/
import Derived.Test.YtfbfdaeagpdaiaaDagLead
set_option maxRecDepth 100000
set_option maxHeartbeats 3200000
namespace Go.Proofs.Ytfbfdaeagpdaiaa
open Go.RowKit Go.Lib
open List renaming setIfInBounds_toArray → sA, set_cons_zero → sB, set_cons_succ → sC
open BigFrame renaming wpList_want → wQ
theorem yieldsIf_lookup15 {P:Program}{ops:Array Oper}{S:World→Prop}{op:Oper}{a:Act}(hw:Region.wanted op (yielded ops a.tmps) = true)(t:TypeId)(m x:Operand)(ok:Bool)(ho:op.op = .lookup t m x ok)(v y:Value)(hm:a.eval m = v)(hx:a.eval x = y)(r:Value)(hr:∀ w,S w→(Instr.lookup t v y ok).run P w = .ok r w):YieldsIf P ops S op r a:=
 .inl ⟨hw,fun w hS=>by
  unfold execOp
  simp only [ho,hm,hx,Sem.run_bind,hr w hS,Result.andThen_ok,Sem.run_pure]⟩
section
variable {P:Program} {o:Oper} {a:Act} {w w':World} {K:Act→World→Prop} {Q:Exit→Act→World→Prop}
theorem wp_alloc_known15 (t:TypeId)(ho:o.op = .alloc t)(d:Option Tmp)(hd:o.dst = d)(v:Value)(hr:(Instr.alloc t true (.tuple #[])).run P w = .ok v w')(h:K (a.put d v) w'):o.wp P a w K Q:=by
 subst hd;unfold Oper.wp execOp;simp only [ho,Sem.run_bind,hr,Result.andThen_ok,Sem.run_pure];exact h
end
theorem alloc_vx15 (w:World):(Instr.alloc 36 true (.tuple #[])).run Try.prog w = .ok (.pointer (some ⟨w.heap.size,0,none⟩)) (w.alloc (.cells Vx.zero.cells.toArray 36)):=by kernel_rfl
theorem setRow_heap15 (w:World)(g:Nat)(cs:Array Value){old:Array Value}{t:TypeId}{fr:Nat × Nat}(h:w.heap[g]? = some (.cells old t fr)):(w.setRow g cs).heap[g]? = some (.cells cs t fr):=by
 have hlt:=lt_of_block h;have h':w.heap[g] = .cells old t fr:=by simpa [Array.getElem?_eq_getElem hlt] using h
 show(w.heap.modify g _)[g]? = _;rw [Array.getElem?_eq_getElem (by simpa using hlt),Array.getElem_modify_self,h']
theorem results_cell_tmp15 {P:Program}{fn:Func}{p q:Tmp}{ty:TypeId}(h:fn.results = #[.cell p ty,.tmp q])(tmps:Array Value)(w:World)(g:Nat)(t:TypeId)(cs:Array Value)(fr:Nat × Nat)(d:TypeDesc)(b:Value)
  (hp:tmps.getD p undef = .pointer (some ⟨g,0,none⟩)) (hq:tmps.getD q undef = b) (hg:w.heap[g]? = some (.cells cs t fr))
  (hu:P.underlying ty = some d) (hd:(match d with | .struct _ | .array _ _=>true | _=>false) = true) (hi:(P.info? ty).map (·.size) = some cs.size) :
  (results fn tmps).run P w = .ok (.tuple #[.agg cs,b]) w:=by
 have hp':tmps[p]?.getD undef = .pointer (some ⟨g,0,none⟩):=by simpa using hp
 have hq':tmps[q]?.getD undef = b:=by simpa using hq
 simp [results,h,hp',hq',asAddr,run_loadVar_row w g t ty cs fr d hg hu hd hi]
def look2 (L:List Vx)(i:List UInt8):Ending:=.returned (.tuple #[((look L i).getD Vx.zero).val,.bool (look L i).isSome])
theorem look_ok15 {L:List Vx}(hL:∀ v∈L,v.Ok)(i:List UInt8):((look L i).getD Vx.zero).Ok:=by
 cases h:look L i with
 | none=>exact Vx.zero_ok
 | some v=>exact hL v (look_some h).1
theorem get15 {sb vb bb n:Nat}{F:Nat→Prop}{keep:Int}{L:List Vx}{h:Option Vx}{P:List (List UInt8)}{hd:List UInt8}(w:World)(d:Ds w sb F keep n L h P vb bb hd)(i:List UInt8)(hi:i.length = 32):
  Calls Try.prog 11 #[.pointer (some ⟨sb,0,none⟩),.agg (bcells i).toArray] w fun e w'=>e = look2 L i∧Kept w.heap.size w.heap.size w w':=by
 have hok:=look_ok15 (fun v hv=>(d.st.ok v hv).1) i
 have HLK:=hid (fun(x:World) (k:Kept w.heap.size w.heap.size w x)=>(d.kept k).vp.look_ok hi)
 have HVM:=hid (fun(x:World) (k:Kept w.heap.size w.heap.size w x)=>load_map15 (d.kept k).at_vert)
 have HLI:=hid (fun(x:World) (g:Nat) (hg:x.heap[g]? = some (.cells (bcells i).toArray 30 (0,0)))=>load_hash15 (w:=x) (g:=g) (o:=0) hi (fun j u hu=>by rw [Nat.zero_add]; exact cells_get hg hu))
 have HLE:Hid (look2 L i = .returned (.tuple #[.agg ((look L i).getD Vx.zero).cells.toArray,.bool (look L i).isSome])):=hid rfl;have HCI:=hid (vxSize15 hok);have HCS:=hid (show((look L i).getD Vx.zero).cells.toArray.size = 66 by rw [List.size_toArray,Vx.cells_length hok])
 have HCA:=hid (Vx.cells_all ((look L i).getD Vx.zero));obtain⟨ex,hex⟩:∃ x,x = look2 L i:=⟨_,rfl⟩;rw [← hex] at HLE ⊢;unfold Vx.val at HLK;generalize ((look L i).getD Vx.zero).cells.toArray = CC at HLK HLE HCI HCS HCA;generalize (look L i).isSome = ob at HLK HLE;generalize (bcells i).toArray = ic at HLK HLI ⊢;obtain⟨ZC,hZC⟩:∃ x,x = Vx.zero.cells.toArray:=⟨_,rfl⟩;have HZE:=hid hZC.symm;have HZS:=hid (show ZC.size = 66 by rw [hZC,List.size_toArray,Vx.cells_length Vx.zero_ok])
 have HZA:=hid (show ZC.all (·.oneCell') = true by rw [hZC]; exact Vx.cells_all _)
 clear d hok hex hZC hi
 go_enter Try.func11,Try.ntmps11
 go_upto_region 0 with fail
 refine wp_region_lit ?_;refine @wQ _ _ _ _ _ _ _ ?_ ?_;kernel_rfl;intro K hK;go_simp;refine hK _ _ ?_;clear hK K;refine @wpL_alloc _ _ _ _ _ _ _ _ ?_ 36 rfl _ (alloc_vx15 _) ?_;kernel_rfl
 simp only [Act.put,sA,sB,sC];refine @wQ _ _ _ _ _ _ _ ?_ ?_;kernel_rfl;intro K hK;go_simp;refine hK _ _ ?_;clear hK K;rw [HZE.out];have k2:Kept w.heap.size w.heap.size w ((w.alloc (.cells ic 30)).alloc (.cells ZC 36)):=((Kept.refl _ _ _).alloc (Nat.le_refl _) _).alloc (by simp) _
 have b1:((w.alloc (.cells ic 30)).alloc (.cells ZC 36)).heap[w.heap.size]? = some (.cells ic 30 (0,0)):=heap_alloc2_old w _ _
 have b2:((w.alloc (.cells ic 30)).alloc (.cells ZC 36)).heap[w.heap.size + 1]? = some (.cells ZC 36 (0,0)):=heap_alloc2_last w _ _
 obtain⟨g0,hg0⟩:∃ x,x = w.heap.size:=⟨_,rfl⟩;obtain⟨g1,hg1⟩:∃ x,x = w.heap.size + 1:=⟨_,rfl⟩;have HG1:=hid (show w.heap.size≤g1 by omega)
 rw [← hg1] at b2 ⊢;rw [← hg0] at b1;generalize (w.alloc (.cells ic 30)).alloc (.cells ZC 36) = w2 at k2 b1 b2 ⊢
 rw [← hg0];have K2:=hid k2;have B1:=hid b1;have B2:=hid b2;clear k2 b1 b2 hg0 hg1
 go_upto_region 3 with fail
 refine wp_region_noPanic ?_;refine wp_region_heldTo 11 (S:=fun x=>Kept w2.heap.size w2.heap.size w2 x) (by kernel_rfl) ((Kept.refl w2.heap.size w2.heap.size w2).drew) (fun hH=>?_)
 obtain⟨wd,hwd⟩:∃ x,x = w2.drew:=⟨_,rfl⟩;rw [← hwd] at hH ⊢;clear hwd;refine heldTo_take_ex (i:=0) 12 rfl rfl (by kernel_rfl) (by kernel_rfl) (by kernel_rfl) (by kernel_rfl) (fun _ _ _ _ h=>h) (by kernel_rfl) hH ?_
 apply Exists.intro;apply And.intro
 ·intro w9 h9
  go_simp
  first | done | rfl
 simp only [sA,sB,sC];refine heldTo_take_ex (i:=1) 13 rfl rfl (by kernel_rfl) (by kernel_rfl) (by kernel_rfl) (by kernel_rfl) (fun _ _ _ _ h=>h) (by kernel_rfl) hH ?_
 apply Exists.intro;apply And.intro
 ·intro w9 h9
  go_simp
  first | done | rfl
 simp only [sA,sB,sC];refine heldTo_take_ex (i:=2) 14 rfl rfl (by kernel_rfl) (by kernel_rfl) (by kernel_rfl) (by kernel_rfl) (fun _ _ _ _ h=>h) (by kernel_rfl) hH ?_
 apply Exists.intro;apply And.intro
 ·intro w9 h9
  go_simp
  first | done | rfl
 simp only [sA,sB,sC];refine heldTo_take (i:=3) 15 (.map (some vb)) rfl rfl (by kernel_rfl) (by kernel_rfl) (by kernel_rfl) (by kernel_rfl) (fun _ _ _ h=>h) (yieldsIf_load_known (by kernel_rfl) 46 _ rfl (sb) (1) rfl (.map (some vb)) (fun x k=>HVM.out x (K2.out.onto k))) hH ?_
 simp only [sA,sB,sC];refine heldTo_take (i:=4) 16 (.agg ic) rfl rfl (by kernel_rfl) (by kernel_rfl) (by kernel_rfl) (by kernel_rfl) (fun _ _ _ h=>h) (yieldsIf_load_known (by kernel_rfl) 30 _ rfl (g0) (0) rfl (.agg ic) (fun x k=>HLI.out x g0 (row_kept B1.out k))) hH ?_
 simp only [sA,sB,sC];refine heldTo_take (i:=5) 17 (.tuple #[.agg CC,.bool ob]) rfl rfl (by kernel_rfl) (by kernel_rfl) (by kernel_rfl) (by kernel_rfl) (fun _ _ _ h=>h) (yieldsIf_lookup15 (by kernel_rfl) 46 _ _ true rfl (.map (some vb)) (.agg ic) rfl rfl (.tuple #[.agg CC,.bool ob]) (fun x k=>HLK.out x (K2.out.onto k))) hH ?_
 simp only [sA,sB,sC];refine heldTo_take_ex (i:=6) 11 rfl rfl (by kernel_rfl) (by kernel_rfl) (by kernel_rfl) (by kernel_rfl) (fun _ _ _ _ h=>h) (by kernel_rfl) hH ?_
 apply Exists.intro;apply And.intro
 ·intro w9 h9
  go_simp
  first | done | rfl
 simp only [sA,sB,sC];refine heldTo_take_ex (i:=7) 18 rfl rfl (by kernel_rfl) (by kernel_rfl) (by kernel_rfl) (by kernel_rfl) (fun _ _ _ _ h=>h) (by kernel_rfl) hH ?_
 apply Exists.intro;apply And.intro
 ·intro w9 h9
  go_simp
  first | done | rfl
 simp only [sA,sB,sC];refine heldTo_take_ex (i:=8) 19 rfl rfl (by kernel_rfl) (by kernel_rfl) (by kernel_rfl) (by kernel_rfl) (fun _ _ _ _ h=>h) (by kernel_rfl) hH ?_
 apply Exists.intro;apply And.intro
 ·intro w9 h9
  go_simp
  first | done | rfl
 simp only [sA,sB,sC];refine heldTo_one (i:=9) (by kernel_rfl) rfl (fun K hK=>?_)
 rw [if_pos (by rfl)]
 have er:=alloc_vx15 wd;have ho:=heap_new wd (.cells ZC 36)
 have ka:=hH.onto (kA wd (.cells ZC 36))
 obtain⟨gb,hgb⟩:∃ x,x = wd.heap.size:=⟨_,rfl⟩;have HGgb:=hid (show w2.heap.size≤gb by rw [hgb]; exact hH.size)
 rw [HZE.out] at er;rw [← hgb] at er ho;generalize wd.alloc (.cells ZC 36) = wa at er ho ka ⊢
 refine wp_alloc_known15 36 rfl (some 6) rfl _ er ?_
 simp only [Act.put,sA,sB,sC];have Kwa:=hid ka;have Rwa:=hid ho;clear er ho ka hgb;refine hK.out _ _ Kwa.out (fun hH=>?_)
 clear hK K;refine heldTo_one (i:=10) (by kernel_rfl) rfl (fun K hK=>?_)
 rw [if_pos (by rfl)]
 refine wp_store_row_none11 36 _ _ rfl rfl gb CC rfl rfl 36 ZC Rwa.out HCI.out (by rw [HCS.out,HZS.out]) HCA.out ?_
 have hs:=setRow_heap15 wa gb CC Rwa.out;have ka:=kept_setRow10 Kwa.out gb HGgb.out CC;generalize wa.setRow gb CC = wb at hs ka ⊢;have Kwb:=hid ka;have Rwb:=hid hs;clear hs ka;refine hK.out _ _ Kwb.out (fun hH=>?_)
 clear hK K;refine heldTo_last (by kernel_rfl) rfl (fun K hK=>?_)
 rw [if_pos (by rfl)]
 go_simp;refine hK _ _ ?_;clear hK K;refine heldTo_done (by kernel_rfl) ?_ _
 refine NoPanic.normal ?_;clear hH
 go_upto_region 4 with fail
 refine wp_region_lit ?_;refine @wpList_load_known _ _ _ _ _ _ _ ?_ 36 (.tmp 6) rfl (gb) (0) rfl (.agg CC) (run_loadVar_row wb gb 36 36 _ (0,0) _ Rwb.out Try.underlying36 rfl HCI.out) ?_;kernel_rfl
 simp only [Act.put,sA,sB,sC];refine @wQ _ _ _ _ _ _ _ ?_ ?_;kernel_rfl;intro K hK;go_simp;refine hK _ _ ?_;clear hK K;refine wpList_store_row rfl 36 _ _ rfl g1 CC rfl rfl 36 ZC (row_kept B2.out Kwb.out) HCI.out (by rw [HCS.out,HZS.out]) HCA.out ?_
 simp only [Act.put];have hs:=setRow_heap15 wb g1 CC (row_kept B2.out Kwb.out);have ka:=kept_setRow10 (K2.out.onto Kwb.out) g1 HG1.out CC;generalize wb.setRow g1 CC = wc at hs ka ⊢;refine @wQ _ _ _ _ _ _ _ ?_ ?_;kernel_rfl;intro K hK;go_simp;refine hK _ _ ?_;clear hK K;go_wp2;refine bodyPost_ret (results_cell_tmp15 rfl _ _ g1 36 CC (0,0) _ (.bool ob) rfl rfl hs Try.underlying36 rfl HCI.out) rfl ?_
 exact⟨HLE.out.symm,ka⟩
end Go.Proofs.Ytfbfdaeagpdaiaa
