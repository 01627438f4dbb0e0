/-
 Proved: the statement PprErased. For every seed, size and takings, bevylaw06.PprErased returns true and its arguments read as before: of the seeds that are left no key that was taken follows but as the document says. No condition.
-/
import Derived.Test.YtanfnafiofkihaaRows
import Derived.Test.YtanfnafiofkihaaGA
import Derived.Test.YtanfnafiofkihaaPprErasedLaw
import Derived.OpenShut
set_option maxRecDepth 100000
namespace Go.Proofs.Ytanfnafiofkihaa.lawPprErased
open Go.ChangeShapes Go.WideShapes Go.ChangeAt Go.RowKit
open Go.ChangeMaps (open_string)
theorem own:ownKnob Try.prog.godebug = none:=by kernel_rfl
theorem tys:∀ t∈Try.f5.params.toList,Try.prog.readableRec t = true/\t < Try.prog.types.size:=by
 rw [Try.params5]
 intro t ht;have hall:([26,5,58].all λt=>Try.prog.readableRec t && decide (t < Try.prog.types.size)) = true:=by kernel_rfl
 have:=List.all_eq_true.1 hall t (by simpa using ht)
 simpa using this
theorem contract (H:Type)(enc:TypeId × Value->H)(W:World)(base:Nat)(args:Array Value)(ds gs:List (DataW H))(before:List MemPlace)
  (hval:∀ (j:Nat) t v,Try.f5.params[j]? = some t->args[j]? = some v->Value.okWide Try.prog W .any base t v)
  (hW:DataW.Whole enc Try.prog Try.f5.params.toList Rows.pprErasedSpec.vars false W args.toList ds gs before) :
  Calls Try.prog 5 args W λe W'=>∃ v,e = .returned v/\Rows.pprErasedSpec.post enc Try.prog Try.f5 false true false false W args v W':=by
 have hW':=hW;obtain⟨p,q,hA0,hV,rfl,hfz,hnd⟩:=hW;have hA:DataW.TrodAll enc Try.prog W 0 (λ_=>true) true Try.f5.params.toList args.toList ds p:=hA0
 rw [Try.params5] at hA hval
 obtain⟨v0,vs0,d0,ds0,p0,q0,hargs,rfl,rfl,h0,r0⟩:=trodAll_cons hA;obtain⟨v1,vs1,d1,ds1,p1,q1,rfl,rfl,rfl,h1,r1⟩:=trodAll_cons r0;obtain⟨v2,vs2,d2,ds2,p2,q2,rfl,rfl,rfl,h2,r2⟩:=trodAll_cons r1;obtain⟨rfl,rfl,rfl⟩:=trodAll_nil r2;obtain rfl:args = #[v0,v1,v2]:=by cases args; simp_all
 have fin:∀ W',Kept W.heap.size W.heap.size W W'->∃ v,Ending.returned (.bool true) = .returned v/\Rows.pprErasedSpec.post enc Try.prog Try.f5 false true false false W #[v0,v1,v2] v W':=λW' hk=>
  law_post (by kernel_rfl) rfl hW' (hk.below (Nat.le_refl _) (Nat.le_refl _)) tys Try.underlying4 rfl rfl
 clear hA0 hW';obtain⟨a,ha,rfl⟩:=open_hash_arg (hval 0 26 v0 rfl rfl) h0
 obtain⟨b,rfl,rfl,rfl,bb⟩:=open_int Try.underlying5 (hval 1 5 v1 rfl rfl) h1
 obtain⟨lb,ub⟩:=bounds_u8 bb;obtain⟨bn,rfl⟩:∃ bn:Nat,b = (bn:Int):=⟨b.toNat,by omega⟩
 obtain⟨L,hL⟩:=open_nums (okWide_slice Try.underlying58 (hval 2 58 v2 rfl rfl)) h2
 refine(pprerased_walk a ha bn (by omega) v2 L W hL).mono λe W' ⟨he,hk⟩=>?_
 subst he;exact fin W' hk
theorem lifted (os:Os)(started:os.Started)(H:Type)(enc:TypeId × Value->H):
  ReturnsInHanded {} Try.checked os 5 .any (Rows.pprErasedSpec.pre6 enc Try.prog Try.f5 Rows.pprErasedRow.domain false) (Rows.pprErasedSpec.post enc Try.prog Try.f5 false true false false):=by
 refine returnsInHanded_of_change (C:=Try.checked) own started (by kernel_rfl) Try.func5
  (ChangeSpec.witness6 (enc:=enc) (C:=Try.checked) false ⟨#[],#[.agg zeros32,.int .u8 0,.slice none 0 0],[]⟩ 8 (by kernel_rfl) (by kernel_rfl) (by kernel_rfl) (by kernel_rfl)) ?_
 intro W base args ds gs before hval hW _ _;exact contract H enc W base args ds gs before hval hW
theorem said:Rows.PprErasedSaid:=
 OpenClaim.holds_of_wide 5 Try.f5 rfl rfl rfl rfl rfl rfl rfl ⟨rfl,rfl,rfl,rfl,rfl⟩ rfl rfl rfl rfl rfl (by kernel_rfl) Try.func5 (by kernel_rfl)
  (of_decide_eq_true (by kernel_rfl)) (by unfold Func.isWrapper; first | (rw [if_pos (by decide +kernel)]; kernel_rfl) | (rw [if_neg (by decide +kernel)]; exact⟨rfl,rfl⟩))
  (λos started H enc _=>lifted os started H enc)
#print axioms said
end Go.Proofs.Ytanfnafiofkihaa.lawPprErased
