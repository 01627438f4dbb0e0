/-
  Proved: the statement TreeAdds. For every tree and leaf, bevylaw08.TreeAdds returns true and its arguments read as before: a leaf put into any right tree makes the document's tree at the document's place, or is refused as it says. No condition.
-/
import Derived.Test.YtmmgekchfgmcdaaRows
import Derived.Test.YtmmgekchfgmcdaaGA
import Derived.Test.YtmmgekchfgmcdaaTreeAddsLaw
import Derived.Test.YtmmgekchfgmcdaaHE

namespace Go.Proofs.Ytmmgekchfgmcdaa.lawTreeAdds
open Go.ChangeShapes Go.WideShapes Go.ChangeAt Go.RowKit
open Go.ChangeMaps (open_string)

theorem own : ownKnob Try.prog.godebug = none := by kernel_rfl
theorem tys : ∀ t ∈ Try.f5.params.toList, Try.prog.readableRec t = true ∧ t < Try.prog.types.size := by
  rw [Try.params5]
  intro t ht
  have hall : ([27, 36].all fun t => Try.prog.readableRec t && decide (t < Try.prog.types.size)) = true := by kernel_rfl
  have := List.all_eq_true.1 hall t (by simpa using ht)
  simpa using this

set_option maxRecDepth 100000 in
theorem contract (H : Type) (enc : TypeId × Value → H) (W : World) (base : Nat) (args : Array Value) (ds gs : List (DataW H)) (before : List MemPlace)
    (hval : ∀ (j : Nat) t v, Try.f5.params[j]? = some t → args[j]? = some v → Value.okWide Try.prog W .any base t v)
    (hW : DataW.Whole enc Try.prog Try.f5.params.toList Rows.treeAddsSpec.vars false W args.toList ds gs before) :
    Calls Try.prog 5 args W fun e W' => ∃ v, e = .returned v ∧ Rows.treeAddsSpec.post enc Try.prog Try.f5 false true false false W args v W' := by
  have hW' := hW
  obtain ⟨p, q, hA0, hV, rfl, hfz, hnd⟩ := hW
  have hA : DataW.TrodAll enc Try.prog W 0 (fun _ => true) true Try.f5.params.toList args.toList ds p := hA0
  rw [Try.params5] at hA hval
  obtain ⟨v0, vs0, d0, ds0, p0, q0, hargs, rfl, rfl, h0, r0⟩ := trodAll_cons hA
  obtain ⟨v1, vs1, d1, ds1, p1, q1, rfl, rfl, rfl, h1, r1⟩ := trodAll_cons r0
  obtain ⟨rfl, rfl, rfl⟩ := trodAll_nil r1
  obtain rfl : args = #[v0, v1] := by cases args; simp_all
  have fin : ∀ W', Kept W.heap.size W.heap.size W W' → ∃ v, Ending.returned (.bool true) = .returned v ∧ Rows.treeAddsSpec.post enc Try.prog Try.f5 false true false false W #[v0, v1] v W' := fun W' hk =>
    law_post (by kernel_rfl) rfl hW' (hk.below (Nat.le_refl _) (Nat.le_refl _)) tys Try.underlying4 rfl rfl
  clear hA0 hW'
  obtain ⟨lv, pv, L, P, rfl, hL, hP⟩ := open_tree (hval 0 27 v0 rfl rfl) h0
  obtain ⟨l, hl, rfl⟩ := open_leaf (hval 1 36 v1 rfl rfl) h1
  refine (treeadds_walk lv pv L P l hl W hL hP).mono fun e W' ⟨he, hk⟩ => ?_
  subst he
  exact fin W' hk

set_option maxRecDepth 100000 in
theorem lifted (os : Os) (started : os.Started) (H : Type) (enc : TypeId × Value → H) :
    ReturnsInHanded {} Try.checked os 5 .any (Rows.treeAddsSpec.pre6 enc Try.prog Try.f5 Rows.treeAddsRow.domain false) (Rows.treeAddsSpec.post enc Try.prog Try.f5 false true false false) := by
  refine returnsInHanded_of_change (C := Try.checked) own started (by kernel_rfl) Try.func5
    (ChangeSpec.witness6 (enc := enc) (C := Try.checked) false ⟨#[], #[.agg #[.slice none 0 0, .slice none 0 0], .agg (Lf.zero.cells.toArray)], []⟩ 8 (by kernel_rfl) (by kernel_rfl) (by kernel_rfl) (by kernel_rfl)) ?_
  intro W base args ds gs before hval hW _ _
  exact contract H enc W base args ds gs before hval hW

theorem said : Rows.TreeAddsSaid :=
  OpenClaim.holds_of_wide 5 Try.f5 rfl rfl rfl rfl rfl rfl rfl ⟨rfl, rfl, rfl, rfl, rfl⟩ rfl rfl rfl rfl rfl (by kernel_rfl) Try.func5 (by kernel_rfl)
    (of_decide_eq_true (by kernel_rfl)) (by unfold Func.isWrapper; first | (rw [if_pos (by decide +kernel)]; kernel_rfl) | (rw [if_neg (by decide +kernel)]; exact ⟨rfl, rfl⟩))
    (fun os started H enc _ => lifted os started H enc)
#print axioms said
end Go.Proofs.Ytmmgekchfgmcdaa.lawTreeAdds
