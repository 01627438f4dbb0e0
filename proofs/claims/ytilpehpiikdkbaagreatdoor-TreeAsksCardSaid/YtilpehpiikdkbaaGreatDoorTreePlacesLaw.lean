/-
 The law TreePlaces.
-/
import Derived.Test.YtilpehpiikdkbaaGreatDoorTreeAwake
import Derived.Test.YtilpehpiikdkbaaGreatDoorTreeNames
import Derived.Test.YtilpehpiikdkbaaGreatDoorTreeRefNames
import Derived.Test.YtilpehpiikdkbaaGreatDoorTreeFew
import Derived.Test.YtilpehpiikdkbaaGreatDoorTreeRefRight

namespace Go.Proofs.YtilpehpiikdkbaaGreatDoor
open Go.RowKit Go.Lib

theorem few_sizes8 {L : List Lf} {P : List Pr} (h : Tt.few L P = true) : L.length ≤ 1000 ∧ P.length ≤ 1000 ∧ ∀ p ∈ P, p.loose.length ≤ 1000 := by
 simp only [Tt.few, Tt.fewp, Bool.and_eq_true, decide_eq_true_eq, List.all_eq_true] at h
 exact ⟨by omega, by omega, fun p hp => Nat.le_trans (h.2.2 p hp) (by decide)⟩
theorem Tt.place_same {L : List Lf} {P : List Pr} (h : Tt.right L P = true) (y : Int) : Tt.place L P y = Tt.rplace L y := by
 have h2 := h
 simp only [Tt.right, Bool.and_eq_true] at h2
 have hnm := Tt.leavesOk_names L [] h2.2.2.2.1
 unfold Tt.place Tt.rplace
 rw [h, Bool.and_true]
 by_cases h1 : 1 ≤ y
 ·by_cases h3 : y ≤ 64
  ·rw [decide_eq_true h1, decide_eq_true h3, Bool.and_self, if_pos rfl, if_pos (by omega)]
  ·rw [decide_eq_false h3, Bool.and_false, if_neg (by decide), if_pos (by omega)]
   exact (Tt.index_none fun j hj e => by
    have := (hnm.2 y (Tt.names_mem.2 ⟨by omega, _, List.getElem_mem hj, e⟩)).2.1
    omega).symm
 ·rw [decide_eq_false h1, Bool.false_and, if_neg (by decide), if_neg (by omega)]
end Go.Proofs.YtilpehpiikdkbaaGreatDoor
