/-
 Does a vertex lead another one?
-/
import Derived.Test.YtfbfdaeagpdaiaaDagLoad
import Derived.Test.YtfbfdaeagpdaiaaGB
set_option maxRecDepth 100000
set_option maxHeartbeats 1600000
namespace Go.Proofs.Ytfbfdaeagpdaiaa
open Go.RowKit Go.Lib
open List renaming setIfInBounds_toArray → sA, set_cons_zero → sB, set_cons_succ → sC
open BigFrame renaming wpList_want → wQ
theorem leads15 (a b:Vx)(ha:a.Ok)(hb:b.Ok)(w:World):Calls Try.prog 21 #[a.val,b.val] w fun e w'=>e = .returned (.bool (Vx.lead a b))∧Kept w.heap.size w.heap.size w w':=by
 have h1:=fun(x:World)=>Vb.new x a
 have hK:Kept w.heap.size w.heap.size w ((w.alloc (.cells a.cells.toArray 36)).alloc (.cells b.cells.toArray 36)):=((Kept.refl _ _ _).alloc (Nat.le_refl _) _).alloc (by simp) _
 have v1:Vb ((w.alloc (.cells a.cells.toArray 36)).alloc (.cells b.cells.toArray 36)) w.heap.size a:=heap_alloc2_old w _ _
 have v2:Vb ((w.alloc (.cells a.cells.toArray 36)).alloc (.cells b.cells.toArray 36)) (w.heap.size + 1) b:=heap_alloc2_last w _ _
 have IA:=hid (v1.lid ha);have IB:=hid (v2.lid hb);have dA:=v1.dep ha;have dB:=v2.dep hb;have HC:=hid (fun x=>cmp_calls a.id b.id ha.1 hb.1 x)
 have HK:=hid hK;have HL:=hid (show Vx.lead a b = (decide (b.dep < a.dep) || (decide (a.dep = b.dep) && decide (compareBytes a.id b.id < 0))) from rfl)
 obtain⟨r,hr⟩:∃ r,r = Vx.lead a b:=⟨_,rfl⟩;rw [← hr] at HL ⊢;obtain⟨ad,had⟩:∃ x,x = a.dep:=⟨_,rfl⟩;obtain⟨bd,hbd⟩:∃ x,x = b.dep:=⟨_,rfl⟩;obtain⟨cc,hcc⟩:∃ x,x = compareBytes a.id b.id:=⟨_,rfl⟩;rw [← had] at dA HL;rw [← hbd] at dB HL;rw [← hcc] at HC HL;unfold Vx.val;generalize a.cells.toArray = ca at *;generalize b.cells.toArray = cb at *;generalize (bcells a.id).toArray = ia at IA HC;generalize (bcells b.id).toArray = ib at IB HC;clear ha hb h1 hK v1 v2 hr had hbd hcc
 go_enter Try.func21,Try.ntmps21
 go_upto_region 1 with fail
 generalize (w.alloc (.cells ca 36)).alloc (.cells cb 36) = w2 at IA IB dA dB HK ⊢
 by_cases h1:bd < ad
 ·have h1':ad > bd:=h1
  refine wp_region_lit ?_;iterate 6 (refine @wQ _ _ _ _ _ _ _ ?_ ?_;kernel_rfl;intro K hK;go_simp;refine hK _ _ ?_;clear hK K)
  refine @wpList_skip _ _ _ _ _ _ _ ?_ ?_;kernel_rfl;simp only [Act.put,sA,sB,sC];refine @wpList_skip _ _ _ _ _ _ _ ?_ ?_;kernel_rfl;simp only [Act.put,sA,sB,sC];refine @wpList_skip _ _ _ _ _ _ _ ?_ ?_;kernel_rfl;simp only [Act.put,sA,sB,sC];refine @wpList_skip _ _ _ _ _ _ _ ?_ ?_;kernel_rfl;simp only [Act.put,sA,sB,sC];refine @wpList_skip _ _ _ _ _ _ _ ?_ ?_;kernel_rfl;simp only [Act.put,sA,sB,sC];refine @wpList_skip _ _ _ _ _ _ _ ?_ ?_;kernel_rfl;simp only [Act.put,sA,sB,sC];refine @wpList_skip _ _ _ _ _ _ _ ?_ ?_;kernel_rfl;simp only [Act.put,sA,sB,sC];refine @wpList_skip _ _ _ _ _ _ _ ?_ ?_;kernel_rfl;simp only [Act.put,sA,sB,sC];refine @wpList_skip _ _ _ _ _ _ _ ?_ ?_;kernel_rfl;simp only [Act.put,sA,sB,sC];refine @wpList_skip _ _ _ _ _ _ _ ?_ ?_;kernel_rfl;simp only [Act.put,sA,sB,sC];refine @wpList_skip _ _ _ _ _ _ _ ?_ ?_;kernel_rfl;simp only [Act.put,sA,sB,sC];refine @wpList_skip _ _ _ _ _ _ _ ?_ ?_;kernel_rfl;simp only [Act.put,sA,sB,sC];refine @wpList_skip _ _ _ _ _ _ _ ?_ ?_;kernel_rfl;simp only [Act.put,sA,sB,sC];iterate 2 (refine @wQ _ _ _ _ _ _ _ ?_ ?_;kernel_rfl;intro K hK;go_simp;refine hK _ _ ?_;clear hK K)
  go_wp2;go_ret;rw [HL.out];simp [h1];exact HK.out
 ·have h1':¬ ad > bd:=h1
  by_cases h2:ad = bd
  ·have h2':=hid h2
   subst h2;refine wp_region_lit ?_;iterate 13 (refine @wQ _ _ _ _ _ _ _ ?_ ?_;kernel_rfl;intro K hK;go_simp;refine hK _ _ ?_;clear hK K)
   refine @wpList_load_known _ _ _ _ _ _ _ ?_ 30 (.tmp 17) rfl (w.heap.size) (0) rfl (.agg ia) (IA.out) ?_;kernel_rfl
   simp only [Act.put,sA,sB,sC];refine @wQ _ _ _ _ _ _ _ ?_ ?_;kernel_rfl;intro K hK;go_simp;refine hK _ _ ?_;clear hK K;refine @wpList_load_known _ _ _ _ _ _ _ ?_ 30 (.tmp 19) rfl (w.heap.size + 1) (0) rfl (.agg ib) (IB.out) ?_;kernel_rfl
   simp only [Act.put,sA,sB,sC];refine @wQ _ _ _ _ _ _ _ ?_ ?_;kernel_rfl;intro K hK;go_simp;go_at_call 27
   refine(HC.out _).mono ?_;rintro e x1 ⟨rfl,kx1⟩;refine hK _ _ ?_;clear hK K;iterate 4 (refine @wQ _ _ _ _ _ _ _ ?_ ?_;kernel_rfl;intro K hK;go_simp;refine hK _ _ ?_;clear hK K)
   go_wp2;go_ret;rw [HL.out];simp;exact HK.out.trans (kx1.mono HK.out.size (fun i hi _=>Nat.ne_of_lt (Nat.lt_of_lt_of_le hi HK.out.size)))
  ·have h2':(ad == bd) = false:=by simpa using h2
   refine wp_region_lit ?_;iterate 12 (refine @wQ _ _ _ _ _ _ _ ?_ ?_;kernel_rfl;intro K hK;go_simp;refine hK _ _ ?_;clear hK K)
   refine @wpList_skip _ _ _ _ _ _ _ ?_ ?_;kernel_rfl;simp only [Act.put,sA,sB,sC];refine @wpList_skip _ _ _ _ _ _ _ ?_ ?_;kernel_rfl;simp only [Act.put,sA,sB,sC];refine @wpList_skip _ _ _ _ _ _ _ ?_ ?_;kernel_rfl;simp only [Act.put,sA,sB,sC];refine @wpList_skip _ _ _ _ _ _ _ ?_ ?_;kernel_rfl;simp only [Act.put,sA,sB,sC];refine @wpList_skip _ _ _ _ _ _ _ ?_ ?_;kernel_rfl;simp only [Act.put,sA,sB,sC];refine @wpList_skip _ _ _ _ _ _ _ ?_ ?_;kernel_rfl;simp only [Act.put,sA,sB,sC];iterate 3 (refine @wQ _ _ _ _ _ _ _ ?_ ?_;kernel_rfl;intro K hK;go_simp;refine hK _ _ ?_;clear hK K)
   go_wp2;go_ret;rw [HL.out];simp [h1,h2];exact HK.out
end Go.Proofs.Ytfbfdaeagpdaiaa
