/-
  Opening a slice of texts that comes in.
-/
import Derived.Test.YtdhebdahfnilkaaRows
import Derived.Test.YtdhebdahfnilkaaMacCodesLaw
import Derived.SliceStrings
import Derived.ProofKit
import Derived.OpenShut
namespace Go.Proofs.Ytdhebdahfnilkaa
open Go.ChangeShapes Go.WideShapes Go.ChangeAt Go.RowKit

theorem open_texts {H : Type} {enc : TypeId × Value → H} {w : World} {v : Value} {d : DataW H} {p : List MemPlace} (hv : ∃ ao len cap, v = .slice ao len cap) (h : DataW.Trod enc Try.prog w 0 (fun _ => true) true 22 v d p) : ∃ parts, Texts w v parts := by
  obtain ⟨ao, len, cap, rfl⟩ := hv
  obtain ⟨fuel, hf⟩ := h
  have hc9 : Try.prog.cellsOf 9 = 1 := by kernel_rfl
  rcases open_strings Try.underlying22 Try.underlying9 hc9 hf with ⟨hcs, _⟩ | ⟨a, len', cap', ss, hcs, _, hl, hm, hz, _, hcell, _⟩
  · simp [Value.cells] at hcs
    obtain ⟨rfl, rfl, rfl⟩ := hcs
    exact ⟨[], none, 0, 0, 0, rfl, fun _ => ⟨rfl, rfl⟩, fun j hj => absurd hj (Nat.not_lt_zero _)⟩
  · simp [Value.cells] at hcs
    obtain ⟨rfl, rfl, rfl⟩ := hcs
    simp only [if_true] at hz
    have hlen : (ss.take len).length = len := by rw [List.length_take]; omega
    obtain ⟨g, o, spot⟩ := a
    refine ⟨ss.take len, some ⟨g, o, spot⟩, cap, g, o, by rw [hlen], (fun h => by cases h), fun j hj => ?_⟩
    have hj' : j < ss.length := by rw [hlen] at hj; omega
    have h1 := hcell j hj'
    have h00 := hcell 0 (by omega)
    have hspot : spot = none := by simpa [Addr.add] using World.cell?_spot h00
    clear h00
    subst hspot
    rw [Addr.add_lit] at h1
    refine ⟨rfl, World.block_lt_of_cell? _ _ h1, ?_⟩
    rw [h1, List.getElem_take, List.getD_eq_getElem?_getD, List.getElem?_eq_getElem hj']
    rfl

end Go.Proofs.Ytdhebdahfnilkaa
