/-
 Proved: the statement ChatNames as its tied card. For every digest and two numbers, bevylaw14.ChatNames returns true and its arguments read as before: what a note's key is called is the document's. Condition: the package variable bevy/wire.bounds begins as the program's text lays it (the card ties it to the text).
-/
import Derived.Test.YtnlbgggnpoeleaaGreatDoorWireLaid
import Derived.Test.YtnlbgggnpoeleaaGreatDoorGA
import Derived.Test.YtnlbgggnpoeleaaGreatDoorCF
set_option maxRecDepth 100000
namespace Go.Proofs.YtnlbgggnpoeleaaGreatDoor.lawChatNames
open Go.ChangeShapes Go.WideShapes Go.ChangeAt Go.RowKit
open Go.ChangeMaps (open_string)
theorem tys:∀ t∈Tryz.f4.params.toList,Tryz.prog.readableRec t = true/\t < Tryz.prog.types.size:=by
 rw [Tryz.params4]
 intro t ht;have hall:([23,3,3].all λt=>Tryz.prog.readableRec t && decide (t < Tryz.prog.types.size)) = true:=by kernel_rfl
 have:=List.all_eq_true.1 hall t (by simpa using ht)
 simpa using this
theorem contract (H:Type)(enc:TypeId × Value->H)(W:World)(base:Nat)(args:Array Value)(ds gs:List (DataW H))(before:List MemPlace)
  (hval:∀ (j:Nat) t v,Tryz.f4.params[j]? = some t->args[j]? = some v->Value.okWide Tryz.prog W .any base t v)
  (hW:DataW.Whole enc Tryz.prog Tryz.f4.params.toList Rows.chatNamesSpec.vars false W args.toList ds gs before) (hL:laidMetH Tryz.prog Rows.chatNamesRow.laid W) :
  Calls Tryz.prog 4 args W λe W'=>∃ v,e = .returned v/\Rows.chatNamesSpec.post enc Tryz.prog Tryz.f4 false true false false W args v W':=by
 have hW':=hW;obtain⟨p,q,hA0,hV,rfl,hfz,hnd⟩:=hW;have hA:DataW.TrodAll enc Tryz.prog W 0 (λ_=>true) true Tryz.f4.params.toList args.toList ds p:=hA0
 rw [Tryz.params4] at hA hval
 obtain⟨v0,vs0,d0,ds0,p0,q0,hargs,rfl,rfl,h0,r0⟩:=trodAll_cons hA;obtain⟨v1,vs1,d1,ds1,p1,q1,rfl,rfl,rfl,h1,r1⟩:=trodAll_cons r0;obtain⟨v2,vs2,d2,ds2,p2,q2,rfl,rfl,rfl,h2,r2⟩:=trodAll_cons r1;obtain⟨rfl,rfl,rfl⟩:=trodAll_nil r2;obtain rfl:args = #[v0,v1,v2]:=by cases args; simp_all
 have fin:∀ W',Kept W.heap.size W.heap.size W W'->∃ v,Ending.returned (.bool true) = .returned v/\Rows.chatNamesSpec.post enc Tryz.prog Tryz.f4 false true false false W #[v0,v1,v2] v W':=λW' hk=>
  law_post (by kernel_rfl) rfl hW' (hk.below (Nat.le_refl _) (Nat.le_refl _)) tys Tryz.underlying4 rfl rfl
 clear hA0 hW';obtain⟨k,hk,rfl⟩:=open_hash_arg (hval 0 23 v0 rfl rfl) h0
 obtain⟨a,rfl,rfl,rfl,hba⟩:=open_int Tryz.underlying3 (hval 1 3 v1 rfl rfl) h1
 obtain⟨la,ua⟩:=bounds_i64 hba;obtain⟨g,rfl,rfl,rfl,hbg⟩:=open_int Tryz.underlying3 (hval 2 3 v2 rfl rfl) h2
 obtain⟨lg,ug⟩:=bounds_i64 hbg;refine(chatnames_walk k hk a g la ua lg ug W (chatTable hL)).mono λe W' ⟨he,hk⟩=>?_
 subst he;exact fin W' hk
theorem laid_met (os:Os):laidMet Tryz.prog Rows.chatNamesRow.laid ((laidWorld4 os).forCall (λ_ _=>0) ⟨#[],#[.agg zeros32,.int .i64 0,.int .i64 0],[]⟩).memory:=
 laidMet_of_run' 8 (by kernel_rfl) (by kernel_rfl)
theorem reads (os:Os){H:Type}(enc:TypeId × Value->H):∃ places,DataW.whole enc Tryz.prog ((laidWorld4 os).forCall (λ_ _=>0) ⟨#[],#[.agg zeros32,.int .i64 0,.int .i64 0],[]⟩).memory Tryz.f4.params.toList Rows.chatNamesSpec.vars false (#[.agg zeros32,.int .i64 0,.int .i64 0]:Array Value).toList 8 = some ([.agg (List.replicate 32 (.lit (.int .u8 0))),.lit (.int .i64 0),.lit (.int .i64 0)],[],places):=
 ⟨[],by kernel_rfl⟩
theorem lifted (os:Os)(started:os.Started)(H:Type)(enc:TypeId × Value->H)(F:Stop.Interp):
  ReturnsInHanded {} Tryz.checked os 4 .any ((OpenSpec.ofChange Rows.chatNamesSpec).preRow enc Tryz.prog Tryz.f4 Rows.chatNamesRow.domain false Rows.chatNamesRow.laid) (((OpenSpec.ofChange Rows.chatNamesSpec).at F).post enc Tryz.prog Tryz.f4 false true false false):=by
 obtain⟨places,hx⟩:=reads os enc
 refine returnsInHanded_of_row (C:=Tryz.checked) (s:=OpenSpec.ofChange Rows.chatNamesSpec) wireOwn started (by kernel_rfl) Tryz.func4
  (witness_row_at (enc:=enc) (C:=Tryz.checked) false (laidWorld4 os) #[.agg zeros32,.int .i64 0,.int .i64 0] rfl (by kernel_rfl) (by kernel_rfl) (by kernel_rfl)
   (OpenSpec.preRow_of_cond 8 hx (by kernel_rfl) (λk hk=>by cases hk) (by kernel_rfl) (laid_met os))) ?_
 intro W base args ds gs before hval hW _ _ _ hL _ _;exact contract H enc W base args ds gs before hval hW hL
theorem said:Rows.ChatNamesSaid:=
 OpenClaim.holds_of_cond 4 Tryz.f4 rfl rfl rfl rfl rfl rfl rfl ⟨rfl,rfl,rfl,rfl,rfl⟩ rfl rfl rfl rfl rfl (by kernel_rfl) Tryz.func4 (by kernel_rfl)
  (of_decide_eq_true (by kernel_rfl)) (by unfold Func.isWrapper; first | (rw [if_pos (by decide +kernel)]; kernel_rfl) | (rw [if_neg (by decide +kernel)]; exact⟨rfl,rfl⟩))
  (λos started H enc _ F=>by rw [OpenClaim.pre_eq_preRow]; exact lifted os started H enc F)
theorem plain (f : FuncId) (fn : Func) (hf : Tryz.pinned.checked.prog.funcNamed "bevy/bevylaw14.ChatNames" = some f) (hfn : Tryz.pinned.checked.prog.funcs[f]? = some fn) :
  false = Tryz.pinned.checked.prog.looks []/\∀ (j:Nat) t,fn.params[j]? = some t->Tryz.pinned.checked.prog.wantsStandIn t = false:=by
 obtain rfl : f = 4 := Option.some.inj ((show Tryz.prog.funcNamed "bevy/bevylaw14.ChatNames" = some 4 by kernel_rfl).symm.trans hf) |>.symm
 obtain rfl:fn = Tryz.f4:=(Option.some.inj (Tryz.func4.symm.trans hfn)).symm
 refine⟨by kernel_rfl,λj t ht=>?_⟩
 rw [Tryz.params4] at ht
 have hm:t∈[23,3,3]:=by simpa using Array.mem_of_getElem? ht
 have hall:([23,3,3].all λu=>!Tryz.prog.wantsStandIn u) = true:=by kernel_rfl
 exact(show Tryz.prog.wantsStandIn t = false by simpa using List.all_eq_true.1 hall t hm)
theorem card:Rows.ChatNamesCardSaid:=
 Claim7.holds_tied_plain_at .later [] _ _ _ _ said (λ_ h=>by cases h) (by kernel_rfl) (λ_ h=>by cases h) chatNames_row_tie rfl ⟨rfl,rfl⟩ (by kernel_rfl) rfl plain (by kernel_rfl)
#print axioms card
end Go.Proofs.YtnlbgggnpoeleaaGreatDoor.lawChatNames
