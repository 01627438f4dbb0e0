/-
 Proved: the statement ChangeApplies as its tied card. For every tree, times, roll and list of proposals, bevylaw10.ChangeApplies returns true and its arguments read as before: what any changes make of any tree is the document's, or is refused as it says. Condition: the package variable bevy/wire.bounds begins as the program's text lays it (the card ties it to the text).
-/
import Derived.Test.YtinebhdilnndaaaGreatDoorWireLaid
import Derived.Test.YtinebhdilnndaaaGreatDoorGA
import Derived.Test.YtinebhdilnndaaaGreatDoorChangeAppliesLaw
import Derived.Test.YtinebhdilnndaaaGreatDoorAD
set_option maxRecDepth 100000
namespace Go.Proofs.YtinebhdilnndaaaGreatDoor.lawChangeApplies
open Go.ChangeShapes Go.WideShapes Go.ChangeAt Go.RowKit
open Go.ChangeMaps (open_string)
theorem tys:∀ t∈Tryz.f6.params.toList,Tryz.prog.readableRec t = true/\t < Tryz.prog.types.size:=by
 rw [Tryz.params6]
 intro t ht;have hall:([32,33].all λt=>Tryz.prog.readableRec t && decide (t < Tryz.prog.types.size)) = true:=by kernel_rfl
 have:=List.all_eq_true.1 hall t (by simpa using ht)
 simpa using this
theorem contract (H:Type)(enc:TypeId × Value->H)(W:World)(base:Nat)(args:Array Value)(ds gs:List (DataW H))(before:List MemPlace)
  (hval:∀ (j:Nat) t v,Tryz.f6.params[j]? = some t->args[j]? = some v->Value.okWide Tryz.prog W .any base t v)
  (hW:DataW.Whole enc Tryz.prog Tryz.f6.params.toList Rows.changeAppliesSpec.vars false W args.toList ds gs before) (hL:laidMetH Tryz.prog Rows.changeAppliesRow.laid W) :
  Calls Tryz.prog 6 args W λe W'=>∃ v,e = .returned v/\Rows.changeAppliesSpec.post enc Tryz.prog Tryz.f6 false true false false W args v W':=by
 have hW':=hW;obtain⟨p,q,hA0,hV,rfl,hfz,hnd⟩:=hW;have hA:DataW.TrodAll enc Tryz.prog W 0 (λ_=>true) true Tryz.f6.params.toList args.toList ds p:=hA0
 rw [Tryz.params6] at hA hval
 obtain⟨v0,vs0,d0,ds0,p0,q0,hargs,rfl,rfl,h0,r0⟩:=trodAll_cons hA;obtain⟨v1,vs1,d1,ds1,p1,q1,rfl,rfl,rfl,h1,r1⟩:=trodAll_cons r0;obtain⟨rfl,rfl,rfl⟩:=trodAll_nil r1;obtain rfl:args = #[v0,v1]:=by cases args; simp_all
 have fin:∀ W',Kept W.heap.size W.heap.size W W'->∃ v,Ending.returned (.bool true) = .returned v/\Rows.changeAppliesSpec.post enc Tryz.prog Tryz.f6 false true false false W #[v0,v1] v W':=λW' hk=>
  law_post (by kernel_rfl) rfl hW' (hk.below (Nat.le_refl _) (Nat.le_refl _)) tys Tryz.underlying4 rfl rfl
 clear hA0 hW';obtain⟨lv,pv,rv,L,P,R,ts,ep,dp,by_,rfl,hL2,hP,hR,hts,hep⟩:=open_place (hval 0 32 v0 rfl rfl) h0
 obtain⟨A,hA2⟩:=open_cgs (okWide_slice Tryz.underlying33 (hval 1 33 v1 rfl rfl)) h1
 refine(changeapplies_walk lv pv rv v1 L P R A ts ep dp by_ W hL2 hP hR hA2 hts hep (wireTable hL)).mono λe W' ⟨he,hk⟩=>?_
 subst he;exact fin W' hk
theorem laid_met (os:Os):laidMet Tryz.prog Rows.changeAppliesRow.laid ((laidWorld os).forCall (λ_ _=>0) ⟨#[],#[.agg (xcells (.slice none 0 0) (.slice none 0 0) Ap.z64 (.slice none 0 0) Cm.z32 0 0).toArray,.slice none 0 0],[]⟩).memory:=
 laidMet_of_run' 8 (by kernel_rfl) (by kernel_rfl)
theorem reads (os:Os){H:Type}(enc:TypeId × Value->H):∃ places,DataW.whole enc Tryz.prog ((laidWorld os).forCall (λ_ _=>0) ⟨#[],#[.agg (xcells (.slice none 0 0) (.slice none 0 0) Ap.z64 (.slice none 0 0) Cm.z32 0 0).toArray,.slice none 0 0],[]⟩).memory Tryz.f6.params.toList Rows.changeAppliesSpec.vars false (#[.agg (xcells (.slice none 0 0) (.slice none 0 0) Ap.z64 (.slice none 0 0) Cm.z32 0 0).toArray,.slice none 0 0]:Array Value).toList 8 = some ([.agg [.agg [.nil,.nil],.agg (List.replicate 64 (.lit (.int .i64 0))),.nil,.agg (List.replicate 32 (.lit (.int .u8 0))),.lit (.int .i64 0),.lit (.int .i64 0)],.nil],[],places):=
 ⟨[],by kernel_rfl⟩
theorem lifted (os:Os)(started:os.Started)(H:Type)(enc:TypeId × Value->H)(F:Stop.Interp):
  ReturnsInHanded {} Tryz.checked os 6 .any ((OpenSpec.ofChange Rows.changeAppliesSpec).preRow enc Tryz.prog Tryz.f6 Rows.changeAppliesRow.domain false Rows.changeAppliesRow.laid) (((OpenSpec.ofChange Rows.changeAppliesSpec).at F).post enc Tryz.prog Tryz.f6 false true false false):=by
 obtain⟨places,hx⟩:=reads os enc
 refine returnsInHanded_of_row (C:=Tryz.checked) (s:=OpenSpec.ofChange Rows.changeAppliesSpec) wireOwn started (by kernel_rfl) Tryz.func6
  (witness_row_at (enc:=enc) (C:=Tryz.checked) false (laidWorld os) #[.agg (xcells (.slice none 0 0) (.slice none 0 0) Ap.z64 (.slice none 0 0) Cm.z32 0 0).toArray,.slice none 0 0] rfl (by kernel_rfl) (by kernel_rfl) (by kernel_rfl)
   (OpenSpec.preRow_of_cond 8 hx (by kernel_rfl) (λk hk=>by cases hk) (by kernel_rfl) (laid_met os))) ?_
 intro W base args ds gs before hval hW _ _ _ hL _ _;exact contract H enc W base args ds gs before hval hW hL
theorem said:Rows.ChangeAppliesSaid:=
 OpenClaim.holds_of_cond 6 Tryz.f6 rfl rfl rfl rfl rfl rfl rfl ⟨rfl,rfl,rfl,rfl,rfl⟩ rfl rfl rfl rfl rfl (by kernel_rfl) Tryz.func6 (by kernel_rfl)
  (of_decide_eq_true (by kernel_rfl)) (by unfold Func.isWrapper; first | (rw [if_pos (by decide +kernel)]; kernel_rfl) | (rw [if_neg (by decide +kernel)]; exact⟨rfl,rfl⟩))
  (λos started H enc _ F=>by rw [OpenClaim.pre_eq_preRow]; exact lifted os started H enc F)
theorem plain (f : FuncId) (fn : Func) (hf : Tryz.pinned.checked.prog.funcNamed "bevy/bevylaw10.ChangeApplies" = some f) (hfn : Tryz.pinned.checked.prog.funcs[f]? = some fn) :
  false = Tryz.pinned.checked.prog.looks []/\∀ (j:Nat) t,fn.params[j]? = some t->Tryz.pinned.checked.prog.wantsStandIn t = false:=by
 obtain rfl : f = 6 := Option.some.inj ((show Tryz.prog.funcNamed "bevy/bevylaw10.ChangeApplies" = some 6 by kernel_rfl).symm.trans hf) |>.symm
 obtain rfl:fn = Tryz.f6:=(Option.some.inj (Tryz.func6.symm.trans hfn)).symm
 refine⟨by kernel_rfl,λj t ht=>?_⟩
 rw [Tryz.params6] at ht
 have hm:t∈[32,33]:=by simpa using Array.mem_of_getElem? ht
 have hall:([32,33].all λu=>!Tryz.prog.wantsStandIn u) = true:=by kernel_rfl
 exact(show Tryz.prog.wantsStandIn t = false by simpa using List.all_eq_true.1 hall t hm)
theorem card:Rows.ChangeAppliesCardSaid:=
 Claim7.holds_tied_plain_at .later [] _ _ _ _ said (λ_ h=>by cases h) (by kernel_rfl) (λ_ h=>by cases h) changeApplies_row_tie rfl ⟨rfl,rfl⟩ (by kernel_rfl) rfl plain (by kernel_rfl)
#print axioms card
end Go.Proofs.YtinebhdilnndaaaGreatDoor.lawChangeApplies
