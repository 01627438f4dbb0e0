/-
  What every statement of this kind asks at the end of its walk: the call returned true and turned nothing that was there: then each argument reads as it did. No program is named here.
-/
import Derived.WalkKit
import Derived.ProofKit
namespace Go.Proofs.Ythhplmgpgnajbaa
open Go.ChangeShapes Go.WideShapes Go.ChangeAt Go.RowKit

theorem trodAll_below {H : Type} {enc : TypeId × Value → H} {P : Program} (hl : laidOutB P = true) {W W' : World} (hb : Below W.heap.size W W') :
    ∀ (ts : List TypeId), (∀ t ∈ ts, P.readableRec t = true ∧ t < P.types.size) → ∀ (vs : List Value) (ds : List (DataW H)) (p : List MemPlace), DataW.TrodAll enc P W 0 (fun _ => true) true ts vs ds p → (∀ x ∈ p, x.block < W.heap.size) →
      DataW.TrodAll enc P W' 0 (fun b => decide (b < W.heap.size)) true ts vs ds p := by
  intro ts
  induction ts with
  | nil =>
    intro _ vs ds p h _
    match vs, ds, h with
    | [], [], h => exact h
  | cons t ts ih =>
    intro hts vs ds p h hp
    match vs, ds, h with
    | v :: vs, d :: ds, ⟨p1, q1, h1, h2, h3⟩ =>
      subst h3
      have ht := hts t (by simp)
      exact ⟨p1, q1, Below.trod hl ht.1 ht.2 h1 hb (fun x hx => hp x (by simp [hx])), ih (fun t ht => hts t (by simp [ht])) vs ds q1 h2 (fun x hx => hp x (by simp [hx])), rfl⟩

theorem law_post {H : Type} {enc : TypeId × Value → H} {P : Program} {f : Func} {s : ChangeSpec} {args : Array Value} {ds gs : List (DataW H)} {before : List MemPlace} {W W' : World} (hl : laidOutB P = true) (hvars : s.vars = [])
    (hW : DataW.Whole enc P f.params.toList s.vars false W args.toList ds gs before) (hb : Below W.heap.size W W') (hts : ∀ t ∈ f.params.toList, P.readableRec t = true ∧ t < P.types.size)
    {tb : TypeId} (htb : P.underlying tb = some .bool) (hres : f.resultTypes = #[tb]) (hspec : s.fn H (ds ++ []) = { results := [.lit (.bool true)], args := ds }) :
    ∃ v, Ending.returned (.bool true) = .returned v ∧ s.post enc P f false true false false W args v W' := by
  have hlt := hW.lt
  have hW0 := hW
  obtain ⟨p, q, hA, hV, rfl, hfz, hnd⟩ := hW
  rw [hvars] at hV
  obtain ⟨rfl, rfl⟩ := trodVars_none hV
  refine ⟨_, rfl, ds, [], _, [], p, [], hW0, ?_, ?_, ?_, hb.frame _, fun h => by cases h⟩
  · rw [hres, hspec]
    exact trodAll_mk1 (shut_bool htb _)
  · rw [hspec]
    exact trodAll_below hl hb _ hts _ _ _ hA (fun x hx => hlt x (by simp [hx]))
  · rw [hspec, hvars]
    exact rfl

end Go.Proofs.Ythhplmgpgnajbaa
