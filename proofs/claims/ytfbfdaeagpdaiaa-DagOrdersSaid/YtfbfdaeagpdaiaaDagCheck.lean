/-
 The landed Check.
-/
import Derived.Test.YtfbfdaeagpdaiaaDagFits
import Derived.Test.YtfbfdaeagpdaiaaGA
set_option maxRecDepth 100000
set_option maxHeartbeats 12800000
namespace Go.Proofs.Ytfbfdaeagpdaiaa
open Go.RowKit Go.Lib
open List renaming setIfInBounds_toArray → sA, set_cons_zero → sB, set_cons_succ → sC
open BigFrame renaming wpList_want → wQ
theorem hashGuard15:Try.prog.eqGuardType Try.prog.depth 30 = false:=by kernel_rfl
def Need (keep:Int)(L:List Vx)(h:Option Vx)(v:Vx):Prop:=0≤v.dep∧v.dep≤4611686018427387903∧v.id∉Dg.ids L∧Dg.floor keep h≤v.dep
def Enough (keep:Int)(L:List Vx)(h:Option Vx)(P:List (List UInt8))(v:Vx):Prop:=Need keep L h v∧v.par≠v.id∧Suits L P v
def ChkB (keep:Int)(L:List Vx)(h:Option Vx)(P:List (List UInt8))(v:Vx)(w:World)(e:Ending)(w':World):Prop:=∃ er:Int,e = .returned (.int .i64 er)∧(er = 0→Need keep L h v)∧(Enough keep L h P v→er = 0)∧Kept w.heap.size w.heap.size w w'
theorem check15 {sb n:Nat}{F:Nat→Prop}{keep:Int}{L:List Vx}{h:Option Vx}{P:List (List UInt8)}(w:World)(ds:Dst w sb F keep n L h P)(v:Vx)(hv:v.Ok):
  Calls Try.prog 13 #[.pointer (some ⟨sb,0,none⟩),v.val] w (ChkB keep L h P v w):=by
 have HFI:=hid (fun(x:World) (k:Kept w.heap.size w.heap.size w x)=>fits15 x (ds.kept k) v hv)
 have HFL:=hid (fun(x:World) (k:Kept w.heap.size w.heap.size w x)=>floor15 x (ds.kept k))
 obtain⟨vb,bb,hd,d⟩:=ds;have hok:=look_ok15 (fun v hv=>(d.st.ok v hv).1) v.id
 have HLK:=hid (fun(x:World) (k:Kept w.heap.size w.heap.size w x)=>(d.kept k).vp.look_ok hv.1)
 have HVM:=hid (fun(x:World) (k:Kept w.heap.size w.heap.size w x)=>load_map15 (d.kept k).at_vert)
 have HVI:=hid (fun(x:World) (g:Nat) (hg:Vb x g v)=>hg.lid hv)
 have HVP:=hid (fun(x:World) (g:Nat) (hg:Vb x g v)=>hg.lpar hv)
 have HVD:=hid (fun(x:World) (g:Nat) (hg:Vb x g v)=>hg.dep hv)
 have HVE:=hid (fun(x:World) (g:Nat) (hg:Vb x g v)=>hg.ldep hv)
 have HVA:=hid (fun(x:World) (g:Nat) (hg:Vb x g v)=>hg.all hv)
 have HEQ:=hid (fun(x:World)=>hash_equalIn x v.par v.id hv.2 hv.1)
 have HEI:Hid ((v.par == v.id) = true→v.par = v.id):=hid (fun h=>by simpa using h)
 have HCI:=hid (vxSize15 hok);have HCS:=hid (show((look L v.id).getD Vx.zero).cells.toArray.size = 66 by rw [List.size_toArray,Vx.cells_length hok])
 have HCA:=hid (Vx.cells_all ((look L v.id).getD Vx.zero))
 have HOB:Hid ((look L v.id).isSome = false→v.id∉Dg.ids L):=hid (fun hi=>look_out (by
  cases hl:look L v.id with
  | none=>rfl
  | some u=>rw [hl] at hi; cases hi))
 have HOT:Hid ((look L v.id).isSome = true→¬ v.id∉Dg.ids L):=hid (fun hi hn=>by rw [look_none_of hn] at hi; cases hi)
 have HVW:=hid (show ∀ (x:World) (g:Nat),x.heap[g]? = some (.cells v.cells.toArray 36 (0,0))→Vb x g v from fun x g h=>h)
 have HVK:=hid (show ∀ (x y:World) (g:Nat),Vb x g v→Kept x.heap.size x.heap.size x y→Vb y g v from fun x y g h k=>h.kept k)
 have HFB:=hid (show ∀ (er:Int) (w':World),(er = 0→Need keep L h v)→(Enough keep L h P v→er = 0)→Kept w.heap.size w.heap.size w w'→ChkB keep L h P v w (.returned (.int .i64 er)) w' from fun er w' h1 h2 h3=>⟨er,rfl,h1,h2,h3⟩)
 have HNE:=hid (show Need keep L h v↔0≤v.dep∧v.dep≤4611686018427387903∧v.id∉Dg.ids L∧Dg.floor keep h≤v.dep from Iff.rfl);have HEN:=hid (show Enough keep L h P v→Need keep L h v∧v.par≠v.id∧Suits L P v from id);obtain⟨vd,hvd⟩:∃ x,x = v.dep:=⟨_,rfl⟩;rw [← hvd] at HVD HVE HNE HFI;obtain⟨fl,hfl⟩:∃ x,x = Dg.floor keep h:=⟨_,rfl⟩;rw [← hfl] at HFL HNE;unfold Vx.val at HLK HVA HFI ⊢;generalize ((look L v.id).getD Vx.zero).cells.toArray = CC at HLK HCI HCS HCA;generalize (look L v.id).isSome = ob at HLK HOB HOT;generalize v.cells.toArray = VC at HVW HVA HFI ⊢;generalize (bcells v.par).toArray = pc at HVP HEQ;generalize (bcells v.id).toArray = ic at HVI HLK HEQ;generalize (v.par == v.id) = eb at HEQ HEI;obtain⟨ZC,hZC⟩:∃ x,x = Vx.zero.cells.toArray:=⟨_,rfl⟩;have HZE:=hid hZC.symm;have HZS:=hid (show ZC.size = 66 by rw [hZC,List.size_toArray,Vx.cells_length Vx.zero_ok])
 clear d hok hv hZC hvd hfl
 go_enter Try.func13,Try.ntmps13
 go_upto_region 0 with fail
 refine wp_region_lit ?_;iterate 2 (refine @wQ _ _ _ _ _ _ _ ?_ ?_;kernel_rfl;intro K hK;go_simp;refine hK _ _ ?_;clear hK K)
 have k2:Kept w.heap.size w.heap.size w (w.alloc (.cells VC 36)):=(Kept.refl _ _ _).alloc (Nat.le_refl _) _
 have b1:=HVW.out _ _ (heap_new w (.cells VC 36))
 obtain⟨g0,hg0⟩:∃ x,x = w.heap.size:=⟨_,rfl⟩;rw [← hg0] at b1;generalize w.alloc (.cells VC 36) = w2 at k2 b1 ⊢
 rw [← hg0];have K2:=hid k2;have B1:=hid b1;have dv:=HVD.out _ _ b1;clear k2 b1 hg0
 go_upto_region 1 with fail
 by_cases c0:vd < 0
 ·have C0:=hid c0
  refine wp_region_lit ?_;iterate 8 (refine @wQ _ _ _ _ _ _ _ ?_ ?_;kernel_rfl;intro K hK;go_simp;refine hK _ _ ?_;clear hK K)
  refine @wpList_skip _ _ _ _ _ _ _ ?_ ?_;kernel_rfl;simp only [Act.put,sA,sB,sC];refine @wpList_skip _ _ _ _ _ _ _ ?_ ?_;kernel_rfl;simp only [Act.put,sA,sB,sC];refine @wpList_skip _ _ _ _ _ _ _ ?_ ?_;kernel_rfl;simp only [Act.put,sA,sB,sC];iterate 2 (refine @wQ _ _ _ _ _ _ _ ?_ ?_;kernel_rfl;intro K hK;go_simp;refine hK _ _ ?_;clear hK K)
  refine @wpList_skip _ _ _ _ _ _ _ ?_ ?_;kernel_rfl;simp only [Act.put,sA,sB,sC];refine @wpList_skip _ _ _ _ _ _ _ ?_ ?_;kernel_rfl;simp only [Act.put,sA,sB,sC];refine @wpList_skip _ _ _ _ _ _ _ ?_ ?_;kernel_rfl;simp only [Act.put,sA,sB,sC];refine @wpList_skip _ _ _ _ _ _ _ ?_ ?_;kernel_rfl;simp only [Act.put,sA,sB,sC];refine @wpList_skip _ _ _ _ _ _ _ ?_ ?_;kernel_rfl;simp only [Act.put,sA,sB,sC];refine @wQ _ _ _ _ _ _ _ ?_ ?_;kernel_rfl;intro K hK;go_simp;refine hK _ _ ?_;clear hK K;go_wp2;go_ret;exact HFB.out _ _ ((fun h=>absurd h (by decide))) (fun he=>absurd (HNE.out.1 (HEN.out he).1).1 (by have:=C0.out; omega)) (K2.out)
 ·by_cases c1:vd > 4611686018427387903
  ·have C1:=hid c1
   refine wp_region_lit ?_;iterate 13 (refine @wQ _ _ _ _ _ _ _ ?_ ?_;kernel_rfl;intro K hK;go_simp;refine hK _ _ ?_;clear hK K)
   refine @wpList_skip _ _ _ _ _ _ _ ?_ ?_;kernel_rfl;simp only [Act.put,sA,sB,sC];refine @wpList_skip _ _ _ _ _ _ _ ?_ ?_;kernel_rfl;simp only [Act.put,sA,sB,sC];refine @wpList_skip _ _ _ _ _ _ _ ?_ ?_;kernel_rfl;simp only [Act.put,sA,sB,sC];refine @wpList_skip _ _ _ _ _ _ _ ?_ ?_;kernel_rfl;simp only [Act.put,sA,sB,sC];refine @wpList_skip _ _ _ _ _ _ _ ?_ ?_;kernel_rfl;simp only [Act.put,sA,sB,sC];refine @wQ _ _ _ _ _ _ _ ?_ ?_;kernel_rfl;intro K hK;go_simp;refine hK _ _ ?_;clear hK K;go_wp2;go_ret;exact HFB.out _ _ ((fun h=>absurd h (by decide))) (fun he=>absurd (HNE.out.1 (HEN.out he).1).2.1 (by have:=C1.out; omega)) (K2.out)
  ·cases eb with
   | true=>
    refine wp_region_lit ?_;iterate 14 (refine @wQ _ _ _ _ _ _ _ ?_ ?_;kernel_rfl;intro K hK;go_simp;refine hK _ _ ?_;clear hK K)
    refine @wpList_load_known _ _ _ _ _ _ _ ?_ 30 (.tmp 20) rfl (g0) (32) rfl (.agg pc) (HVP.out _ _ B1.out) ?_;kernel_rfl
    simp only [Act.put,sA,sB,sC];refine @wQ _ _ _ _ _ _ _ ?_ ?_;kernel_rfl;intro K hK;go_simp;refine hK _ _ ?_;clear hK K;refine @wpList_load_known _ _ _ _ _ _ _ ?_ 30 (.tmp 22) rfl (g0) (0) rfl (.agg ic) (HVI.out _ _ B1.out) ?_;kernel_rfl
    simp only [Act.put,sA,sB,sC];refine @wpL_eql10 _ _ _ _ _ _ _ ?_ _ _ _ _ rfl (pc) (ic) rfl rfl hashGuard15 (true) (HEQ.out _) ?_;kernel_rfl;simp only [Act.put,sA,sB,sC];refine @wQ _ _ _ _ _ _ _ ?_ ?_;kernel_rfl;intro K hK;go_simp;refine hK _ _ ?_;clear hK K;go_wp2;go_ret;exact HFB.out _ _ ((fun h=>absurd h (by decide))) (fun he=>absurd (HEI.out trivial) (HEN.out he).2.1) (K2.out)
   | false=>
    have C0:=hid (show 0≤vd by omega)
    have C1:=hid (show vd≤4611686018427387903 by omega)
    refine wp_region_lit ?_;iterate 14 (refine @wQ _ _ _ _ _ _ _ ?_ ?_;kernel_rfl;intro K hK;go_simp;refine hK _ _ ?_;clear hK K)
    refine @wpList_load_known _ _ _ _ _ _ _ ?_ 30 (.tmp 20) rfl (g0) (32) rfl (.agg pc) (HVP.out _ _ B1.out) ?_;kernel_rfl
    simp only [Act.put,sA,sB,sC];refine @wQ _ _ _ _ _ _ _ ?_ ?_;kernel_rfl;intro K hK;go_simp;refine hK _ _ ?_;clear hK K;refine @wpList_load_known _ _ _ _ _ _ _ ?_ 30 (.tmp 22) rfl (g0) (0) rfl (.agg ic) (HVI.out _ _ B1.out) ?_;kernel_rfl
    simp only [Act.put,sA,sB,sC];refine @wpL_eql10 _ _ _ _ _ _ _ ?_ _ _ _ _ rfl (pc) (ic) rfl rfl hashGuard15 (false) (HEQ.out _) ?_;kernel_rfl;simp only [Act.put,sA,sB,sC];refine @wQ _ _ _ _ _ _ _ ?_ ?_;kernel_rfl;intro K hK;go_simp;refine hK _ _ ?_;clear hK K;clear c0 c1 dv
    go_upto_region 3 with fail
    refine wp_region_noPanic ?_;refine wp_region_heldTo 12 (S:=fun x=>Kept w2.heap.size w2.heap.size w2 x) (by kernel_rfl) ((Kept.refl w2.heap.size w2.heap.size w2).drew) (fun hH=>?_)
    obtain⟨wd,hwd⟩:∃ x,x = w2.drew:=⟨_,rfl⟩;rw [← hwd] at hH ⊢;clear hwd;refine heldTo_take_ex (i:=0) 27 rfl rfl (by kernel_rfl) (by kernel_rfl) (by kernel_rfl) (by kernel_rfl) (fun _ _ _ _ h=>h) (by kernel_rfl) hH ?_
    apply Exists.intro;apply And.intro
    ·intro w9 h9
     go_simp
     first | done | rfl
    simp only [sA,sB,sC];refine heldTo_take_ex (i:=1) 28 rfl rfl (by kernel_rfl) (by kernel_rfl) (by kernel_rfl) (by kernel_rfl) (fun _ _ _ _ h=>h) (by kernel_rfl) hH ?_
    apply Exists.intro;apply And.intro
    ·intro w9 h9
     go_simp
     first | done | rfl
    simp only [sA,sB,sC];refine heldTo_take_ex (i:=2) 29 rfl rfl (by kernel_rfl) (by kernel_rfl) (by kernel_rfl) (by kernel_rfl) (fun _ _ _ _ h=>h) (by kernel_rfl) hH ?_
    apply Exists.intro;apply And.intro
    ·intro w9 h9
     go_simp
     first | done | rfl
    simp only [sA,sB,sC];refine heldTo_take (i:=3) 30 (.map (some vb)) rfl rfl (by kernel_rfl) (by kernel_rfl) (by kernel_rfl) (by kernel_rfl) (fun _ _ _ h=>h) (yieldsIf_load_known (by kernel_rfl) 46 _ rfl (sb) (1) rfl (.map (some vb)) (fun x k=>HVM.out x (K2.out.onto k))) hH ?_
    simp only [sA,sB,sC];refine heldTo_take_ex (i:=4) 31 rfl rfl (by kernel_rfl) (by kernel_rfl) (by kernel_rfl) (by kernel_rfl) (fun _ _ _ _ h=>h) (by kernel_rfl) hH ?_
    apply Exists.intro;apply And.intro
    ·intro w9 h9
     go_simp
     first | done | rfl
    simp only [sA,sB,sC];refine heldTo_take (i:=5) 32 (.agg ic) rfl rfl (by kernel_rfl) (by kernel_rfl) (by kernel_rfl) (by kernel_rfl) (fun _ _ _ h=>h) (yieldsIf_load_known (by kernel_rfl) 30 _ rfl (g0) (0) rfl (.agg ic) (fun x k=>HVI.out x g0 (HVK.out _ _ _ B1.out k))) hH ?_
    simp only [sA,sB,sC];refine heldTo_take (i:=6) 33 (.tuple #[.agg CC,.bool ob]) rfl rfl (by kernel_rfl) (by kernel_rfl) (by kernel_rfl) (by kernel_rfl) (fun _ _ _ h=>h) (yieldsIf_lookup15 (by kernel_rfl) 46 _ _ true rfl (.map (some vb)) (.agg ic) rfl rfl (.tuple #[.agg CC,.bool ob]) (fun x k=>HLK.out x (K2.out.onto k))) hH ?_
    simp only [sA,sB,sC];refine heldTo_take_ex (i:=7) 26 rfl rfl (by kernel_rfl) (by kernel_rfl) (by kernel_rfl) (by kernel_rfl) (fun _ _ _ _ h=>h) (by kernel_rfl) hH ?_
    apply Exists.intro;apply And.intro
    ·intro w9 h9
     go_simp
     first | done | rfl
    simp only [sA,sB,sC];refine heldTo_take_ex (i:=8) 34 rfl rfl (by kernel_rfl) (by kernel_rfl) (by kernel_rfl) (by kernel_rfl) (fun _ _ _ _ h=>h) (by kernel_rfl) hH ?_
    apply Exists.intro;apply And.intro
    ·intro w9 h9
     go_simp
     first | done | rfl
    simp only [sA,sB,sC];refine heldTo_take_ex (i:=9) 35 rfl rfl (by kernel_rfl) (by kernel_rfl) (by kernel_rfl) (by kernel_rfl) (fun _ _ _ _ h=>h) (by kernel_rfl) hH ?_
    apply Exists.intro;apply And.intro
    ·intro w9 h9
     go_simp
     first | done | rfl
    simp only [sA,sB,sC];refine heldTo_one (i:=10) (by kernel_rfl) rfl (fun K hK=>?_)
    rw [if_pos (by rfl)]
    have er:=alloc_vx15 wd;have ho:=heap_new wd (.cells ZC 36)
    have ka:=hH.onto (kA wd (.cells ZC 36))
    obtain⟨gb,hgb⟩:∃ x,x = wd.heap.size:=⟨_,rfl⟩;have HGgb:=hid (show w2.heap.size≤gb by rw [hgb]; exact hH.size)
    rw [HZE.out] at er;rw [← hgb] at er ho;generalize wd.alloc (.cells ZC 36) = wa at er ho ka ⊢
    refine wp_alloc_known15 36 rfl (some 5) rfl _ er ?_
    simp only [Act.put,sA,sB,sC];have Kwa:=hid ka;have Rwa:=hid ho;clear er ho ka hgb;refine hK.out _ _ Kwa.out (fun hH=>?_)
    clear hK K;refine heldTo_one (i:=11) (by kernel_rfl) rfl (fun K hK=>?_)
    rw [if_pos (by rfl)]
    refine wp_store_row_none11 36 _ _ rfl rfl gb CC rfl rfl 36 ZC Rwa.out HCI.out (by rw [HCS.out,HZS.out]) HCA.out ?_
    have hs:=setRow_heap15 wa gb CC Rwa.out;have ka:=kept_setRow10 Kwa.out gb HGgb.out CC;generalize wa.setRow gb CC = wb at hs ka ⊢;have Kwb:=hid ka;have Rwb:=hid hs;clear hs ka;refine hK.out _ _ Kwb.out (fun hH=>?_)
    clear hK K;refine heldTo_last (by kernel_rfl) rfl (fun K hK=>?_)
    rw [if_pos (by rfl)]
    go_simp;refine hK _ _ ?_;clear hK K;refine heldTo_done (by kernel_rfl) ?_ _
    refine NoPanic.normal ?_;clear hH;have K3:=hid (K2.out.onto Kwb.out);have B3:=hid (HVK.out _ _ _ B1.out Kwb.out)
    cases ob with
    | true=>
     go_wp2;go_ret;exact HFB.out _ _ ((fun h=>absurd h (by decide))) (fun he=>absurd (HNE.out.1 (HEN.out he).1).2.2.1 (HOT.out trivial)) (K3.out)
    | false=>
     go_upto_region 6 with fail
     refine wp_region_noPanic ?_;refine wp_region_held_drew (S:=fun w'=>Kept wb.heap.size wb.heap.size wb w') (by kernel_rfl) ((Kept.refl _ _ _).drew) (fun hH=>?_)
     refine wpAnyH_take_ex (i:=0) 37 rfl rfl (by kernel_rfl) (by kernel_rfl) (by kernel_rfl) (fun _ _ _ _ h=>h) (by kernel_rfl) hH ?_
     apply Exists.intro;apply And.intro
     ·intro w9 _
      go_simp
      first | done | rfl
     simp only [sA,sB,sC];refine wpAnyH_take_at (i:=1) 38 (.int .i64 vd) rfl rfl (by kernel_rfl) (by kernel_rfl) (by kernel_rfl) (fun _ _ _ h=>h) (yieldsIf_load_known (by kernel_rfl) 3 _ rfl (g0) (64) rfl (.int .i64 vd) (fun x k=>HVE.out x g0 (HVK.out _ _ _ B3.out k))) hH ?_
     simp only [sA,sB,sC];refine wpAnyH_take_ex (i:=2) 39 rfl rfl (by kernel_rfl) (by kernel_rfl) (by kernel_rfl) (fun _ _ _ _ h=>h) (by kernel_rfl) hH ?_
     apply Exists.intro;apply And.intro
     ·intro w9 _
      go_simp
      first | done | rfl
     simp only [sA,sB,sC];refine wpAnyH_ready (rs:=[3]) (by kernel_rfl) (by simp) ?_
     refine AllReadyH.cons rfl (fun K hK=>?_) AllReadyH.nil
     rw [if_pos (by rfl)]
     go_simp
     go_wp2_with (go_at_call 12; refine(HFL.out _ (K3.out.onto (Kept.refl wb.heap.size wb.heap.size wb).drew)).mono ?_; rintro e x1 ⟨rfl,k1⟩)
     have KS:=((Kept.refl wb.heap.size wb.heap.size wb).drew).onto k1;have X1:=hid KS;clear k1;refine hK.out _ _ KS (fun hH=>?_)
     clear hK K KS;refine wpAnyH_take_ex (i:=4) 41 rfl rfl (by kernel_rfl) (by kernel_rfl) (by kernel_rfl) (fun _ _ _ _ h=>h) (by kernel_rfl) hH ?_
     apply Exists.intro;apply And.intro
     ·intro w9 _
      go_simp
      first | done | rfl
     simp only [sA,sB,sC];refine wpAnyH_done (by kernel_rfl) ?_ _
     refine NoPanic.normal ?_
     by_cases c2:vd < fl
     ·have C2:=hid c2
      go_wp2;go_ret;exact HFB.out _ _ ((fun h=>absurd h (by decide))) (fun he=>absurd (HNE.out.1 (HEN.out he).1).2.2.2 (by have:=C2.out; omega)) (K3.out.onto X1.out)
     ·have C2:=hid (show fl≤vd by omega)
      have B4:=hid (HVK.out _ _ _ B3.out X1.out)
      go_upto_region 8 with fail
      refine wp_region_lit ?_;refine @wQ _ _ _ _ _ _ _ ?_ ?_;kernel_rfl;intro K hK;go_simp;refine hK _ _ ?_;clear hK K;refine @wpList_load_known _ _ _ _ _ _ _ ?_ 36 (.tmp 3) rfl (g0) (0) rfl (.agg VC) (HVA.out _ _ B4.out) ?_;kernel_rfl
      simp only [Act.put,sA,sB,sC];refine @wQ _ _ _ _ _ _ _ ?_ ?_;kernel_rfl;intro K hK;go_simp;go_at_call 20
      refine(HFI.out _ (K3.out.onto X1.out) C0.out C1.out).mono ?_;rintro e x2 ⟨b,rfl,hb,kx2⟩;refine hK _ _ ?_;clear hK K;have HBB:=hid hb;have KX:=hid (K3.out.onto (X1.out.onto kx2));clear hb kx2 c2
      cases b with
      | true=>
       refine @wQ _ _ _ _ _ _ _ ?_ ?_;kernel_rfl;intro K hK;go_simp;refine hK _ _ ?_;clear hK K;go_wp2;go_ret;exact HFB.out _ _ (fun _=>HNE.out.2 ⟨C0.out,C1.out,HOB.out trivial,C2.out⟩) (fun _=>rfl) (KX.out)
      | false=>
       refine @wQ _ _ _ _ _ _ _ ?_ ?_;kernel_rfl;intro K hK;go_simp;refine hK _ _ ?_;clear hK K;go_wp2;go_ret;exact HFB.out _ _ ((fun h=>absurd h (by decide))) (fun he=>absurd (HBB.out (HEN.out he).2.2) (by decide)) (KX.out)
end Go.Proofs.Ytfbfdaeagpdaiaa
