/-
 Proved: the statement DagHead. For every bound and vertices, bevylaw15.DagHead returns true and its arguments read as before: behind whatever comes the head is the deepest, of those the least, and is never gone, and a deeper one never gives way to a lesser. No condition.
-/
import Derived.Test.YtfbfdaeagpdaiaaRows
import Derived.Test.YtfbfdaeagpdaiaaGA
import Derived.Test.YtfbfdaeagpdaiaaDagHeadLaw
import Derived.Test.YtfbfdaeagpdaiaaDagOpen
import Derived.OpenShut
set_option maxRecDepth 100000
namespace Go.Proofs.Ytfbfdaeagpdaiaa.lawDagHead
open Go.ChangeShapes Go.WideShapes Go.ChangeAt Go.RowKit
open Go.ChangeMaps (open_string)
theorem own:ownKnob Try.prog.godebug = none:=by kernel_rfl
theorem tys:∀ t∈Try.f4.params.toList,Try.prog.readableRec t = true∧t < Try.prog.types.size:=by
 rw [Try.params4]
 intro t ht;have hall:([5,22].all fun t=>Try.prog.readableRec t && decide (t < Try.prog.types.size)) = true:=by kernel_rfl
 have:=List.all_eq_true.1 hall t (by simpa using ht)
 simpa using this
theorem contract (H:Type)(enc:TypeId × Value→H)(W:World)(base:Nat)(args:Array Value)(ds gs:List (DataW H))(before:List MemPlace)
  (hval:∀ (j:Nat) t v,Try.f4.params[j]? = some t→args[j]? = some v→Value.okWide Try.prog W .any base t v)
  (hW:DataW.Whole enc Try.prog Try.f4.params.toList Rows.dagHeadSpec.vars false W args.toList ds gs before) :
  Calls Try.prog 4 args W fun e W'=>∃ v,e = .returned v∧Rows.dagHeadSpec.post enc Try.prog Try.f4 false true false false W args v W':=by
 have hW':=hW;obtain⟨p,q,hA0,hV,rfl,hfz,hnd⟩:=hW;have hA:DataW.TrodAll enc Try.prog W 0 (fun _=>true) true Try.f4.params.toList args.toList ds p:=hA0
 rw [Try.params4] at hA hval
 obtain⟨v0,vs0,d0,ds0,p0,q0,hargs,rfl,rfl,h0,r0⟩:=trodAll_cons hA;obtain⟨v1,vs1,d1,ds1,p1,q1,rfl,rfl,rfl,h1,r1⟩:=trodAll_cons r0;obtain⟨rfl,rfl,rfl⟩:=trodAll_nil r1;obtain rfl:args = #[v0,v1]:=by cases args; simp_all
 have fin:∀ W',Kept W.heap.size W.heap.size W W'→∃ v,Ending.returned (.bool true) = .returned v∧Rows.dagHeadSpec.post enc Try.prog Try.f4 false true false false W #[v0,v1] v W':=fun W' hk=>
  law_post (by kernel_rfl) rfl hW' (hk.below (Nat.le_refl _) (Nat.le_refl _)) tys Try.underlying4 rfl rfl
 clear hA0 hW';obtain⟨b,rfl,rfl,rfl,bb⟩:=open_int Try.underlying5 (hval 0 5 v0 rfl rfl) h0
 obtain⟨lb,ub⟩:=bounds_u8 bb;obtain⟨M,hM⟩:=open_vertices15 (okWide_slice Try.underlying22 (hval 1 22 v1 rfl rfl)) h1
 refine(daghead_walk b lb ub v1 M W hM).mono fun e W' ⟨he,hk⟩=>?_
 subst he;exact fin W' hk
theorem lifted (os:Os)(started:os.Started)(H:Type)(enc:TypeId × Value→H):
  ReturnsInHanded {} Try.checked os 4 .any (Rows.dagHeadSpec.pre6 enc Try.prog Try.f4 Rows.dagHeadRow.domain false) (Rows.dagHeadSpec.post enc Try.prog Try.f4 false true false false):=by
 refine returnsInHanded_of_change (C:=Try.checked) own started (by kernel_rfl) Try.func4
  (ChangeSpec.witness6 (enc:=enc) (C:=Try.checked) false ⟨#[],#[.int .u8 0,.slice none 0 0],[]⟩ 8 (by kernel_rfl) (by kernel_rfl) (by kernel_rfl) (by kernel_rfl)) ?_
 intro W base args ds gs before hval hW _ _;exact contract H enc W base args ds gs before hval hW
theorem said:Rows.DagHeadSaid:=
 OpenClaim.holds_of_wide 4 Try.f4 rfl rfl rfl rfl rfl rfl rfl ⟨rfl,rfl,rfl,rfl,rfl⟩ rfl rfl rfl rfl rfl (by kernel_rfl) Try.func4 (by kernel_rfl)
  (of_decide_eq_true (by kernel_rfl)) (by unfold Func.isWrapper; first | (rw [if_pos (by decide +kernel)]; kernel_rfl) | (rw [if_neg (by decide +kernel)]; exact⟨rfl,rfl⟩))
  (fun os started H enc _=>lifted os started H enc)
#print axioms said
end Go.Proofs.Ytfbfdaeagpdaiaa.lawDagHead
