/-
 Proved: the statement ChatRights as its tied card. For every note, bevylaw14.ChatRights returns true and its argument reads as before: whether any note is right, and its bytes, is the document's. Condition: the package variable bevy/wire.bounds begins as the program's text lays it (the card ties it to the text).
-/
import Derived.Test.YtnlbgggnpoeleaaGreatDoorWireLaid
import Derived.Test.YtnlbgggnpoeleaaGreatDoorGA
import Derived.Test.YtnlbgggnpoeleaaGreatDoorCF
import Derived.Test.YtnlbgggnpoeleaaGreatDoorCG
import Derived.Test.YtnlbgggnpoeleaaGreatDoorChatRightsLaw
set_option maxRecDepth 100000
namespace Go.Proofs.YtnlbgggnpoeleaaGreatDoor.lawChatRights
open Go.ChangeShapes Go.WideShapes Go.ChangeAt Go.RowKit
open Go.ChangeMaps (open_string)
theorem tys:∀ t∈Tryz.f5.params.toList,Tryz.prog.readableRec t = true/\t < Tryz.prog.types.size:=by
 rw [Tryz.params5]
 intro t ht;have hall:([25].all λt=>Tryz.prog.readableRec t && decide (t < Tryz.prog.types.size)) = true:=by kernel_rfl
 have:=List.all_eq_true.1 hall t (by simpa using ht)
 simpa using this
theorem contract (H:Type)(enc:TypeId × Value->H)(W:World)(base:Nat)(args:Array Value)(ds gs:List (DataW H))(before:List MemPlace)
  (hval:∀ (j:Nat) t v,Tryz.f5.params[j]? = some t->args[j]? = some v->Value.okWide Tryz.prog W .any base t v)
  (hW:DataW.Whole enc Tryz.prog Tryz.f5.params.toList Rows.chatRightsSpec.vars false W args.toList ds gs before) (hL:laidMetH Tryz.prog Rows.chatRightsRow.laid W) :
  Calls Tryz.prog 5 args W λe W'=>∃ v,e = .returned v/\Rows.chatRightsSpec.post enc Tryz.prog Tryz.f5 false true false false W args v W':=by
 have hW':=hW;obtain⟨p,q,hA0,hV,rfl,hfz,hnd⟩:=hW;have hA:DataW.TrodAll enc Tryz.prog W 0 (λ_=>true) true Tryz.f5.params.toList args.toList ds p:=hA0
 rw [Tryz.params5] at hA hval
 obtain⟨v0,vs0,d0,ds0,p0,q0,hargs,rfl,rfl,h0,r0⟩:=trodAll_cons hA;obtain⟨rfl,rfl,rfl⟩:=trodAll_nil r0;obtain rfl:args = #[v0]:=by cases args; simp_all
 have fin:∀ W',Kept W.heap.size W.heap.size W W'->∃ v,Ending.returned (.bool true) = .returned v/\Rows.chatRightsSpec.post enc Tryz.prog Tryz.f5 false true false false W #[v0] v W':=λW' hk=>
  law_post (by kernel_rfl) rfl hW' (hk.below (Nat.le_refl _) (Nat.le_refl _)) tys Tryz.underlying4 rfl rfl
 clear hA0 hW';obtain⟨n,hn,han,hgn,rfl⟩:=open_note14 (hval 0 25 v0 rfl rfl) h0
 refine(chatrights_walk n hn W (chatTable hL)).mono λe W' ⟨he,hk⟩=>?_
 subst he;exact fin W' hk
theorem laid_met (os:Os):laidMet Tryz.prog Rows.chatRightsRow.laid ((laidWorld4 os).forCall (λ_ _=>0) ⟨#[],#[.agg Nt.zero.cells.toArray],[]⟩).memory:=
 laidMet_of_run' 8 (by kernel_rfl) (by kernel_rfl)
theorem reads (os:Os){H:Type}(enc:TypeId × Value->H):∃ places,DataW.whole enc Tryz.prog ((laidWorld4 os).forCall (λ_ _=>0) ⟨#[],#[.agg Nt.zero.cells.toArray],[]⟩).memory Tryz.f5.params.toList Rows.chatRightsSpec.vars false (#[.agg Nt.zero.cells.toArray]:Array Value).toList 8 = some ([.agg [.agg (List.replicate 32 (.lit (.int .u8 0))),.lit (.int .i64 0),.lit (.int .i64 0),.lit (.int .i64 0),.lit (.string [])]],[],places):=
 ⟨[],by kernel_rfl⟩
theorem lifted (os:Os)(started:os.Started)(H:Type)(enc:TypeId × Value->H)(F:Stop.Interp):
  ReturnsInHanded {} Tryz.checked os 5 .any ((OpenSpec.ofChange Rows.chatRightsSpec).preRow enc Tryz.prog Tryz.f5 Rows.chatRightsRow.domain false Rows.chatRightsRow.laid) (((OpenSpec.ofChange Rows.chatRightsSpec).at F).post enc Tryz.prog Tryz.f5 false true false false):=by
 obtain⟨places,hx⟩:=reads os enc
 refine returnsInHanded_of_row (C:=Tryz.checked) (s:=OpenSpec.ofChange Rows.chatRightsSpec) wireOwn started (by kernel_rfl) Tryz.func5
  (witness_row_at (enc:=enc) (C:=Tryz.checked) false (laidWorld4 os) #[.agg Nt.zero.cells.toArray] rfl (by kernel_rfl) (by kernel_rfl) (by kernel_rfl)
   (OpenSpec.preRow_of_cond 8 hx (by kernel_rfl) (λk hk=>by cases hk) (by kernel_rfl) (laid_met os))) ?_
 intro W base args ds gs before hval hW _ _ _ hL _ _;exact contract H enc W base args ds gs before hval hW hL
theorem said:Rows.ChatRightsSaid:=
 OpenClaim.holds_of_cond 5 Tryz.f5 rfl rfl rfl rfl rfl rfl rfl ⟨rfl,rfl,rfl,rfl,rfl⟩ rfl rfl rfl rfl rfl (by kernel_rfl) Tryz.func5 (by kernel_rfl)
  (of_decide_eq_true (by kernel_rfl)) (by unfold Func.isWrapper; first | (rw [if_pos (by decide +kernel)]; kernel_rfl) | (rw [if_neg (by decide +kernel)]; exact⟨rfl,rfl⟩))
  (λos started H enc _ F=>by rw [OpenClaim.pre_eq_preRow]; exact lifted os started H enc F)
theorem plain (f : FuncId) (fn : Func) (hf : Tryz.pinned.checked.prog.funcNamed "bevy/bevylaw14.ChatRights" = some f) (hfn : Tryz.pinned.checked.prog.funcs[f]? = some fn) :
  false = Tryz.pinned.checked.prog.looks []/\∀ (j:Nat) t,fn.params[j]? = some t->Tryz.pinned.checked.prog.wantsStandIn t = false:=by
 obtain rfl : f = 5 := Option.some.inj ((show Tryz.prog.funcNamed "bevy/bevylaw14.ChatRights" = some 5 by kernel_rfl).symm.trans hf) |>.symm
 obtain rfl:fn = Tryz.f5:=(Option.some.inj (Tryz.func5.symm.trans hfn)).symm
 refine⟨by kernel_rfl,λj t ht=>?_⟩
 rw [Tryz.params5] at ht
 have hm:t∈[25]:=by simpa using Array.mem_of_getElem? ht
 have hall:([25].all λu=>!Tryz.prog.wantsStandIn u) = true:=by kernel_rfl
 exact(show Tryz.prog.wantsStandIn t = false by simpa using List.all_eq_true.1 hall t hm)
theorem card:Rows.ChatRightsCardSaid:=
 Claim7.holds_tied_plain_at .later [] _ _ _ _ said (λ_ h=>by cases h) (by kernel_rfl) (λ_ h=>by cases h) chatRights_row_tie rfl ⟨rfl,rfl⟩ (by kernel_rfl) rfl plain (by kernel_rfl)
#print axioms card
end Go.Proofs.YtnlbgggnpoeleaaGreatDoor.lawChatRights
