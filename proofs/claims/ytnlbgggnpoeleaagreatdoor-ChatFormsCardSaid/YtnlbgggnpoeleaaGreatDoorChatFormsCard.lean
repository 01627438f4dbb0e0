/-
 Proved: the statement ChatForms as its tied card. For every note and text, bevylaw14.ChatForms returns true and its arguments read as before: a note's bytes are the document's, and any bytes are a note, or refused, as it says. Condition: the package variable bevy/wire.bounds begins as the program's text lays it (the card ties it to the text).
-/
import Derived.Test.YtnlbgggnpoeleaaGreatDoorChatFormsLaw
set_option maxRecDepth 100000
namespace Go.Proofs.YtnlbgggnpoeleaaGreatDoor.lawChatForms
open Go.ChangeShapes Go.WideShapes Go.ChangeAt Go.RowKit
open Go.ChangeMaps (open_string)
theorem tys:∀ t∈Tryz.f3.params.toList,Tryz.prog.readableRec t=true/\t<Tryz.prog.types.size:=by
 rw[Tryz.params3]
 intro t ht;have hall:([25,9].all λt=>Tryz.prog.readableRec t&&decide (t<Tryz.prog.types.size))=true:=by kernel_rfl
 have:=List.all_eq_true.1 hall t (by simpa using ht)
 simpa using this
theorem contract (H:Type)(enc:TypeId × Value->H)(W:World)(base:Nat)(args:Array Value)(ds gs:List (DataW H))(before:List MemPlace)
  (hval:∀(j:Nat) t v,Tryz.f3.params[j]?=some t->args[j]?=some v->Value.okWide Tryz.prog W .any base t v)
  (hW:DataW.Whole enc Tryz.prog Tryz.f3.params.toList Rows.chatFormsSpec.vars false W args.toList ds gs before) (hL:laidMetH Tryz.prog Rows.chatFormsRow.laid W) :
  Calls Tryz.prog 3 args W λe W'=>∃v,e=.returned v/\Rows.chatFormsSpec.post enc Tryz.prog Tryz.f3 false true false false W args v W':=by
 have hW':=hW;obtain⟨p,q,hA0,hV,rfl,hfz,hnd⟩:=hW;have hA:DataW.TrodAll enc Tryz.prog W 0 (λ_=>true) true Tryz.f3.params.toList args.toList ds p:=hA0
 rw[Tryz.params3] at hA hval
 obtain⟨v0,vs0,d0,ds0,p0,q0,hargs,rfl,rfl,h0,r0⟩:=trodAll_cons hA;obtain⟨v1,vs1,d1,ds1,p1,q1,rfl,rfl,rfl,h1,r1⟩:=trodAll_cons r0;obtain⟨rfl,rfl,rfl⟩:=trodAll_nil r1;obtain rfl:args = #[v0,v1]:=by cases args;simp_all
 have fin:∀W',Kept W.heap.size W.heap.size W W'->∃v,Ending.returned (.bool true)=.returned v/\Rows.chatFormsSpec.post enc Tryz.prog Tryz.f3 false true false false W #[v0,v1] v W':=λW' hk=>
  Qwh (by kernel_rfl) rfl hW' (hk.below (zB _) (zB _)) tys Tryz.underlying4 rfl rfl
 clear hA0 hW';obtain⟨n,hn,han,hgn,rfl⟩:=Qo0 (hval 0 25 v0 rfl rfl) h0
 obtain⟨s,rfl,rfl,rfl,_hs⟩:=open_string Tryz.underlying9 (hval 1 9 v1 rfl rfl) h1
 refine(Qkh n hn han hgn s W (chatTable hL)).mono λe W' ⟨he,hk⟩=>?_
 subst he;exact fin W' hk
theorem Qwi (os:Os):laidMet Tryz.prog Rows.chatFormsRow.laid ((laidWorld4 os).forCall (λ_ _=>0) ⟨#[],#[.agg Nt.zero.cells.toArray,.string ByteArray.empty],[]⟩).memory:=
 laidMet_of_run' 8 (by kernel_rfl) (by kernel_rfl)
theorem reads (os:Os){H:Type}(enc:TypeId × Value->H):∃places,DataW.whole enc Tryz.prog ((laidWorld4 os).forCall (λ_ _=>0) ⟨#[],#[.agg Nt.zero.cells.toArray,.string ByteArray.empty],[]⟩).memory Tryz.f3.params.toList Rows.chatFormsSpec.vars false (#[.agg Nt.zero.cells.toArray,.string ByteArray.empty]:Array Value).toList 8=some ([.agg [.agg (List.replicate 32 (.lit (.int .u8 0))),.lit (.int .i64 0),.lit (.int .i64 0),.lit (.int .i64 0),.lit (.string [])],.lit (.string [])],[],places):=
 ⟨[],by kernel_rfl⟩
theorem lifted (os:Os)(started:os.Started)(H:Type)(enc:TypeId × Value->H)(F:Stop.Interp):
  ReturnsInHanded {} Tryz.checked os 3 .any ((OpenSpec.ofChange Rows.chatFormsSpec).preRow enc Tryz.prog Tryz.f3 Rows.chatFormsRow.domain false Rows.chatFormsRow.laid) (((OpenSpec.ofChange Rows.chatFormsSpec).at F).post enc Tryz.prog Tryz.f3 false true false false):=by
 obtain⟨places,hx⟩:=reads os enc
 refine returnsInHanded_of_row (C:=Tryz.checked) (s:=OpenSpec.ofChange Rows.chatFormsSpec) wireOwn started (by kernel_rfl) Tryz.func3
  (witness_row_at (enc:=enc) (C:=Tryz.checked) false (laidWorld4 os) #[.agg Nt.zero.cells.toArray,.string ByteArray.empty] rfl (by kernel_rfl) (by kernel_rfl) (by kernel_rfl)
   (OpenSpec.preRow_of_cond 8 hx (by kernel_rfl) (λk hk=>by cases hk) (by kernel_rfl) (Qwi os))) ?_
 intro W base args ds gs before hval hW _ _ _ hL _ _;exact contract H enc W base args ds gs before hval hW hL
theorem said:Rows.ChatFormsSaid:=
 OpenClaim.holds_of_cond 3 Tryz.f3 rfl rfl rfl rfl rfl rfl rfl ⟨rfl,rfl,rfl,rfl,rfl⟩ rfl rfl rfl rfl rfl (by kernel_rfl) Tryz.func3 (by kernel_rfl)
  (of_decide_eq_true (by kernel_rfl)) (by unfold Func.isWrapper;first|(rw[zG (by decide +kernel)];kernel_rfl)|(rw[if_neg (by decide +kernel)];exact⟨rfl,rfl⟩))
  (λos started H enc _ F=>by rw[OpenClaim.pre_eq_preRow];exact lifted os started H enc F)
theorem plain (f : FuncId) (fn : Func) (hf : Tryz.pinned.checked.prog.funcNamed "bevy/bevylaw14.ChatForms" = some f) (hfn : Tryz.pinned.checked.prog.funcs[f]?=some fn) :
  false=Tryz.pinned.checked.prog.looks []/\∀(j:Nat) t,fn.params[j]?=some t->Tryz.pinned.checked.prog.wantsStandIn t=false:=by
 obtain rfl : f=3 := Option.some.inj ((show Tryz.prog.funcNamed "bevy/bevylaw14.ChatForms" = some 3 by kernel_rfl).symm.trans hf) |>.symm
 obtain rfl:fn=Tryz.f3:=(Option.some.inj (Tryz.func3.symm.trans hfn)).symm
 refine⟨by kernel_rfl,λj t ht=>?_⟩
 rw[Tryz.params3] at ht
 have hm:t∈[25,9]:=by simpa using Array.mem_of_getElem? ht
 have hall:([25,9].all λu=>!Tryz.prog.wantsStandIn u)=true:=by kernel_rfl
 exact(show Tryz.prog.wantsStandIn t=false by simpa using List.all_eq_true.1 hall t hm)
theorem card:Rows.ChatFormsCardSaid:=
 Claim7.holds_tied_plain_at .later [] _ _ _ _ said (λ_ h=>by cases h) (by kernel_rfl) (λ_ h=>by cases h) chatForms_row_tie rfl ⟨rfl,rfl⟩ (by kernel_rfl) rfl plain (by kernel_rfl)
#print axioms card
end Go.Proofs.YtnlbgggnpoeleaaGreatDoor.lawChatForms
