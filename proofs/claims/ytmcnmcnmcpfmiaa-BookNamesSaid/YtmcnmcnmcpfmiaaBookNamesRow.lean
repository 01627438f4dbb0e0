/-
  Proved: the statement BookNames. For any namings and any name, bevylaw04.BookNames returns true and its arguments read as before: a name names what it was given last, and nothing else. No condition.
-/
import Derived.Test.YtmcnmcnmcpfmiaaRows
import Derived.Test.YtmcnmcnmcpfmiaaGA
import Derived.Test.YtmcnmcnmcpfmiaaBookNamesLaw
import Derived.SizedLaws

namespace Go.Proofs.Ytmcnmcnmcpfmiaa.lawBookNames
open Go.ChangeShapes Go.WideShapes Go.ChangeAt Go.RowKit
open Go.ChangeMaps (open_string)

theorem own : ownKnob Try.prog.godebug = none := by kernel_rfl
theorem tys : ∀ t ∈ Try.f6.params.toList, Try.prog.readableRec t = true ∧ t < Try.prog.types.size := by
  rw [Try.params6]
  intro t ht
  have hall : ([46, 9].all fun t => Try.prog.readableRec t && decide (t < Try.prog.types.size)) = true := by kernel_rfl
  have := List.all_eq_true.1 hall t (by simpa using ht)
  simpa using this

set_option maxRecDepth 100000 in
theorem contract (H : Type) (enc : TypeId × Value → H) (W : World) (base : Nat) (args : Array Value) (ds gs : List (DataW H)) (before : List MemPlace)
    (hval : ∀ (j : Nat) t v, Try.f6.params[j]? = some t → args[j]? = some v → Value.okWide Try.prog W .any base t v)
    (hW : DataW.Whole enc Try.prog Try.f6.params.toList Rows.bookNamesSpec.vars false W args.toList ds gs before)
    (hsz0 : (DataW.weightsEach Try.prog (Try.f6.params.toList ++ Rows.bookNamesSpec.plain.varTypes Try.prog) (ds ++ gs)).all (· ≤ reachBytes) = true) :
    Calls Try.prog 6 args W fun e W' => ∃ v, e = .returned v ∧ Rows.bookNamesSpec.post enc Try.prog Try.f6 false true false false W args v W' := by
  have hW' := hW
  have hsz : (DataW.weightsEach Try.prog (Try.f6.params.toList ++ []) (ds ++ gs)).all (· ≤ reachBytes) = true := hsz0
  rw [Try.params6] at hsz
  obtain ⟨p, q, hA0, hV, rfl, hfz, hnd⟩ := hW
  have hA : DataW.TrodAll enc Try.prog W 0 (fun _ => true) true Try.f6.params.toList args.toList ds p := hA0
  rw [Try.params6] at hA hval
  obtain ⟨v0, vs0, d0, ds0, p0, q0, hargs, rfl, rfl, h0, r0⟩ := trodAll_cons hA
  obtain ⟨v1, vs1, d1, ds1, p1, q1, rfl, rfl, rfl, h1, r1⟩ := trodAll_cons r0
  obtain ⟨rfl, rfl, rfl⟩ := trodAll_nil r1
  obtain rfl : args = #[v0, v1] := by cases args; simp_all
  have fin : ∀ W', Kept W.heap.size W.heap.size W W' → ∃ v, Ending.returned (.bool true) = .returned v ∧ Rows.bookNamesSpec.post enc Try.prog Try.f6 false true false false W #[v0, v1] v W' := fun W' hk =>
    law_post (by kernel_rfl) rfl hW' (hk.below (Nat.le_refl _) (Nat.le_refl _)) tys Try.underlying4 rfl rfl
  clear hA0 hW'
  obtain ⟨L, hL, hLw⟩ := open_namings (okWide_slice Try.underlying46 (hval 0 46 v0 rfl rfl)) h0
  obtain ⟨s, rfl, rfl, rfl, ws⟩ := open_string Try.underlying9 (hval 1 9 v1 rfl rfl) h1
  obtain ⟨al, rfl⟩ : ∃ al, s = str al := ⟨s.data.toList, (str_of s).symm⟩
  have hreach := reachBytes_lt
  have hask : (str al).size ≤ 281474976710656 := by
    have := sized_string hsz (j := 1) rfl rfl
    rw [str_data_of] at this
    rw [str_size]
    omega
  have hbig : ∀ x ∈ L, x.1.size ≤ 281474976710656 := fun x hx => by
    have := of_decide_eq_true (List.all_eq_true.1 hsz _ (DataW.weights_mem_each (j := 0) rfl rfl _ (hLw x hx)))
    have e : x.1.data.toList.length = x.1.size := by simp
    omega
  refine (booknames_walk L v0 al hask W hL hbig).mono fun e W' ⟨he, hk⟩ => ?_
  subst he
  exact fin W' hk

set_option maxRecDepth 100000 in
theorem lifted (os : Os) (started : os.Started) (H : Type) (enc : TypeId × Value → H) :
    ReturnsInHanded {} Try.checked os 6 .any (Rows.bookNamesSpec.pre6 enc Try.prog Try.f6 Rows.bookNamesRow.domain false) (Rows.bookNamesSpec.post enc Try.prog Try.f6 false true false false) := by
  refine returnsInHanded_of_change_sized (C := Try.checked) own started (by kernel_rfl) Try.func6
    (ChangeSpec.witness6 (enc := enc) (C := Try.checked) false ⟨#[], #[.slice none 0 0, .string ⟨#[]⟩], []⟩ 8 (by kernel_rfl) (by kernel_rfl) (by kernel_rfl) (by kernel_rfl)) ?_
  intro W base args ds gs before hval hW _ hsz _
  exact contract H enc W base args ds gs before hval hW hsz

theorem said : Rows.BookNamesSaid :=
  OpenClaim.holds_of_wide 6 Try.f6 rfl rfl rfl rfl rfl rfl rfl ⟨rfl, rfl, rfl, rfl, rfl⟩ rfl rfl rfl rfl rfl (by kernel_rfl) Try.func6 (by kernel_rfl)
    (of_decide_eq_true (by kernel_rfl)) (by unfold Func.isWrapper; first | (rw [if_pos (by decide +kernel)]; kernel_rfl) | (rw [if_neg (by decide +kernel)]; exact ⟨rfl, rfl⟩))
    (fun os started H enc _ => lifted os started H enc)
#print axioms said
end Go.Proofs.Ytmcnmcnmcpfmiaa.lawBookNames
