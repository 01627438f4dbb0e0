/-
  The law's own function 'few': if it answers true, there are at most 300 things.
-/
import Derived.Test.YtdnnccnicaoniaaDoorWireOpen

namespace Go.Proofs.YtdnnccnicaoniaaDoor
open Go.RowKit

/-- What 'few' answers. -/
def FewPost (w : World) (len : Nat) (e : Ending) (w' : World) : Prop := ∃ bb : Bool, e = .returned (.bool bb) ∧ (bb = true → len ≤ 300) ∧ w = w'

theorem Things.same {w w' : World} {v : Value} {len : Nat} {T : Nat → Th} (h : Things w v len T) (k : Kept w.heap.size w.heap.size w w') : Things w' v len T := by
  obtain ⟨ao, cap, rfl, hex⟩ := h.ex
  refine ⟨h.lenLe, h.ok, ao, cap, rfl, fun hpos => ?_⟩
  obtain ⟨g, o, rfl, hg, hr⟩ := hex hpos
  refine ⟨g, o, rfl, Nat.lt_of_lt_of_le hg k.size, fun i hi j u hu => ?_⟩
  rw [k.cell (p := ⟨g, o + i * 36 + j, none⟩) hg (by show g ≠ w.heap.size; omega)]
  exact hr i hi j u hu

end Go.Proofs.YtdnnccnicaoniaaDoor
