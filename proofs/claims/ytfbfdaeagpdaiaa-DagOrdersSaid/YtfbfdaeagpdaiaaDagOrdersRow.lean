/-
 Proved: the statement DagOrders. For every bound, vertices and turns, bevylaw15.DagOrders returns true and its arguments read as before: where all are taken in, the same vertices in another order make the same store with the same head. No condition.
-/
import Derived.Test.YtfbfdaeagpdaiaaRows
import Derived.Test.YtfbfdaeagpdaiaaGA
import Derived.Test.YtfbfdaeagpdaiaaDagOrdersLaw
import Derived.Test.YtfbfdaeagpdaiaaDagOpenB
import Derived.OpenShut
set_option maxRecDepth 100000
namespace Go.Proofs.Ytfbfdaeagpdaiaa.lawDagOrders
open Go.ChangeShapes Go.WideShapes Go.ChangeAt Go.RowKit
open Go.ChangeMaps (open_string)
theorem own:ownKnob Try.prog.godebug = none:=by kernel_rfl
theorem tys:∀ t∈Try.f3.params.toList,Try.prog.readableRec t = true∧t < Try.prog.types.size:=by
 rw [Try.params3]
 intro t ht;have hall:([5,22,23].all fun t=>Try.prog.readableRec t && decide (t < Try.prog.types.size)) = true:=by kernel_rfl
 have:=List.all_eq_true.1 hall t (by simpa using ht)
 simpa using this
theorem contract (H:Type)(enc:TypeId × Value→H)(W:World)(base:Nat)(args:Array Value)(ds gs:List (DataW H))(before:List MemPlace)
  (hval:∀ (j:Nat) t v,Try.f3.params[j]? = some t→args[j]? = some v→Value.okWide Try.prog W .any base t v)
  (hW:DataW.Whole enc Try.prog Try.f3.params.toList Rows.dagOrdersSpec.vars false W args.toList ds gs before) :
  Calls Try.prog 3 args W fun e W'=>∃ v,e = .returned v∧Rows.dagOrdersSpec.post enc Try.prog Try.f3 false true false false W args v W':=by
 have hW':=hW;obtain⟨p,q,hA0,hV,rfl,hfz,hnd⟩:=hW;have hA:DataW.TrodAll enc Try.prog W 0 (fun _=>true) true Try.f3.params.toList args.toList ds p:=hA0
 rw [Try.params3] at hA hval
 obtain⟨v0,vs0,d0,ds0,p0,q0,hargs,rfl,rfl,h0,r0⟩:=trodAll_cons hA;obtain⟨v1,vs1,d1,ds1,p1,q1,rfl,rfl,rfl,h1,r1⟩:=trodAll_cons r0;obtain⟨v2,vs2,d2,ds2,p2,q2,rfl,rfl,rfl,h2,r2⟩:=trodAll_cons r1;obtain⟨rfl,rfl,rfl⟩:=trodAll_nil r2;obtain rfl:args = #[v0,v1,v2]:=by cases args; simp_all
 have fin:∀ W',Kept W.heap.size W.heap.size W W'→∃ v,Ending.returned (.bool true) = .returned v∧Rows.dagOrdersSpec.post enc Try.prog Try.f3 false true false false W #[v0,v1,v2] v W':=fun W' hk=>
  law_post (by kernel_rfl) rfl hW' (hk.below (Nat.le_refl _) (Nat.le_refl _)) tys Try.underlying4 rfl rfl
 clear hA0 hW';obtain⟨b,rfl,rfl,rfl,bb⟩:=open_int Try.underlying5 (hval 0 5 v0 rfl rfl) h0
 obtain⟨lb,ub⟩:=bounds_u8 bb;obtain⟨M,hM⟩:=open_vertices15 (okWide_slice Try.underlying22 (hval 1 22 v1 rfl rfl)) h1
 obtain⟨tn,hT⟩:=open_bytes15 (okWide_slice Try.underlying23 (hval 2 23 v2 rfl rfl)) h2
 refine(dagorders_walk b lb ub v1 M v2 tn W hM hT).mono fun e W' ⟨he,hk⟩=>?_
 subst he;exact fin W' hk
theorem lifted (os:Os)(started:os.Started)(H:Type)(enc:TypeId × Value→H):
  ReturnsInHanded {} Try.checked os 3 .any (Rows.dagOrdersSpec.pre6 enc Try.prog Try.f3 Rows.dagOrdersRow.domain false) (Rows.dagOrdersSpec.post enc Try.prog Try.f3 false true false false):=by
 refine returnsInHanded_of_change (C:=Try.checked) own started (by kernel_rfl) Try.func3
  (ChangeSpec.witness6 (enc:=enc) (C:=Try.checked) false ⟨#[],#[.int .u8 0,.slice none 0 0,.slice none 0 0],[]⟩ 8 (by kernel_rfl) (by kernel_rfl) (by kernel_rfl) (by kernel_rfl)) ?_
 intro W base args ds gs before hval hW _ _;exact contract H enc W base args ds gs before hval hW
theorem said:Rows.DagOrdersSaid:=
 OpenClaim.holds_of_wide 3 Try.f3 rfl rfl rfl rfl rfl rfl rfl ⟨rfl,rfl,rfl,rfl,rfl⟩ rfl rfl rfl rfl rfl (by kernel_rfl) Try.func3 (by kernel_rfl)
  (of_decide_eq_true (by kernel_rfl)) (by unfold Func.isWrapper; first | (rw [if_pos (by decide +kernel)]; kernel_rfl) | (rw [if_neg (by decide +kernel)]; exact⟨rfl,rfl⟩))
  (fun os started H enc _=>lifted os started H enc)
#print axioms said
end Go.Proofs.Ytfbfdaeagpdaiaa.lawDagOrders
