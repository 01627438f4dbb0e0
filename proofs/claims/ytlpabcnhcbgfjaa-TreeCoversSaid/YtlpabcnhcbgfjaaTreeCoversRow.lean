/-
 Proved: the statement TreeCovers. For every acts, bevylaw08.TreeCovers returns true and its argument reads as before: what the root of a tree behind any acts resolves to holds each member once, and no other. No condition.
-/
import Derived.Test.YtlpabcnhcbgfjaaRows
import Derived.Test.YtlpabcnhcbgfjaaGA
import Derived.Test.YtlpabcnhcbgfjaaTreeCoversLaw
set_option maxRecDepth 100000
namespace Go.Proofs.Ytlpabcnhcbgfjaa.lawTreeCovers
open Go.ChangeShapes Go.WideShapes Go.ChangeAt Go.RowKit
open Go.ChangeMaps (open_string)
theorem own:ownKnob Try.prog.godebug = none:=by kernel_rfl
theorem tys:∀ t∈Try.f3.params.toList,Try.prog.readableRec t = true∧t < Try.prog.types.size:=by
 rw [Try.params3]
 intro t ht;have hall:([22].all fun t=>Try.prog.readableRec t && decide (t < Try.prog.types.size)) = true:=by kernel_rfl
 have:=List.all_eq_true.1 hall t (by simpa using ht)
 simpa using this
theorem contract (H:Type)(enc:TypeId × Value→H)(W:World)(base:Nat)(args:Array Value)(ds gs:List (DataW H))(before:List MemPlace)
  (hval:∀ (j:Nat) t v,Try.f3.params[j]? = some t→args[j]? = some v→Value.okWide Try.prog W .any base t v)
  (hW:DataW.Whole enc Try.prog Try.f3.params.toList Rows.treeCoversSpec.vars false W args.toList ds gs before) :
  Calls Try.prog 3 args W fun e W'=>∃ v,e = .returned v∧Rows.treeCoversSpec.post enc Try.prog Try.f3 false true false false W args v W':=by
 have hW':=hW;obtain⟨p,q,hA0,hV,rfl,hfz,hnd⟩:=hW;have hA:DataW.TrodAll enc Try.prog W 0 (fun _=>true) true Try.f3.params.toList args.toList ds p:=hA0
 rw [Try.params3] at hA hval
 obtain⟨v0,vs0,d0,ds0,p0,q0,hargs,rfl,rfl,h0,r0⟩:=trodAll_cons hA;obtain⟨rfl,rfl,rfl⟩:=trodAll_nil r0;obtain rfl:args = #[v0]:=by cases args; simp_all
 have fin:∀ W',Kept W.heap.size W.heap.size W W'→∃ v,Ending.returned (.bool true) = .returned v∧Rows.treeCoversSpec.post enc Try.prog Try.f3 false true false false W #[v0] v W':=fun W' hk=>
  law_post (by kernel_rfl) rfl hW' (hk.below (Nat.le_refl _) (Nat.le_refl _)) tys Try.underlying4 rfl rfl
 clear hA0 hW';obtain⟨A,hA⟩:=open_acts8 (okWide_slice Try.underlying22 (hval 0 22 v0 rfl rfl)) h0
 refine(treecovers_walk v0 A W hA).mono fun e W' ⟨he,hk⟩=>?_
 subst he;exact fin W' hk
theorem lifted (os:Os)(started:os.Started)(H:Type)(enc:TypeId × Value→H):
  ReturnsInHanded {} Try.checked os 3 .any (Rows.treeCoversSpec.pre6 enc Try.prog Try.f3 Rows.treeCoversRow.domain false) (Rows.treeCoversSpec.post enc Try.prog Try.f3 false true false false):=by
 refine returnsInHanded_of_change (C:=Try.checked) own started (by kernel_rfl) Try.func3
  (ChangeSpec.witness6 (enc:=enc) (C:=Try.checked) false ⟨#[],#[.slice none 0 0],[]⟩ 8 (by kernel_rfl) (by kernel_rfl) (by kernel_rfl) (by kernel_rfl)) ?_
 intro W base args ds gs before hval hW _ _;exact contract H enc W base args ds gs before hval hW
theorem said:Rows.TreeCoversSaid:=
 OpenClaim.holds_of_wide 3 Try.f3 rfl rfl rfl rfl rfl rfl rfl ⟨rfl,rfl,rfl,rfl,rfl⟩ rfl rfl rfl rfl rfl (by kernel_rfl) Try.func3 (by kernel_rfl)
  (of_decide_eq_true (by kernel_rfl)) (by unfold Func.isWrapper; first | (rw [if_pos (by decide +kernel)]; kernel_rfl) | (rw [if_neg (by decide +kernel)]; exact⟨rfl,rfl⟩))
  (fun os started H enc _=>lifted os started H enc)
#print axioms said
end Go.Proofs.Ytlpabcnhcbgfjaa.lawTreeCovers
