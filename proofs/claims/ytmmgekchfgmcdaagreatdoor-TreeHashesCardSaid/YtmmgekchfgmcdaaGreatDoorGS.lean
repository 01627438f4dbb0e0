/-
  Numbers that come in as a slice.
-/
import Derived.Test.YtmmgekchfgmcdaaGreatDoorGA
import Derived.Test.YtmmgekchfgmcdaaGreatDoorChecked
import Derived.ChangeSlices
import Derived.ProofKit
import Derived.OpenShut

namespace Go.Proofs.YtmmgekchfgmcdaaGreatDoor
open Go.ChangeShapes Go.WideShapes Go.ChangeAt Go.RowKit

/-- The slice v holds these numbers. -/
def Nums (w : World) (v : Value) (L : List Int) : Prop := ∃ ad c g o, v = .slice ad L.length c ∧ ∀ i (hi : i < L.length), ad = some ⟨g, o, none⟩ ∧ g < w.heap.size ∧ w.cell? ⟨g, o + i, none⟩ = some (.int .i64 L[i])
theorem open_nums {H : Type} {enc : TypeId × Value → H} {w : World} {v : Value} {d : DataW H} {p : List MemPlace} (hv : ∃ ao len cap, v = .slice ao len cap) (h : DataW.Trod enc Tryz.prog w 0 (fun _ => true) true 35 v d p) : ∃ L, Nums w v L := by
  obtain ⟨ao, len, cap, rfl⟩ := hv
  obtain ⟨fuel, hf⟩ := h
  have hc9 : Tryz.prog.cellsOf 3 = 1 := by kernel_rfl
  rcases open_ints Tryz.underlying35 Tryz.underlying3 hc9 hf with ⟨hcs, _⟩ | ⟨a, len', cap', zs, hcs, _, hl, hm, hz, _, hcell, _⟩
  · simp [Value.cells] at hcs
    obtain ⟨rfl, rfl, rfl⟩ := hcs
    exact ⟨[], none, 0, 0, 0, rfl, fun j hj => absurd hj (Nat.not_lt_zero _)⟩
  · simp [Value.cells] at hcs
    obtain ⟨rfl, rfl, rfl⟩ := hcs
    simp only [if_true] at hz
    have hlen : (zs.take len).length = len := by rw [List.length_take]; omega
    obtain ⟨g, o, spot⟩ := a
    refine ⟨zs.take len, some ⟨g, o, spot⟩, cap, g, o, by rw [hlen], fun j hj => ?_⟩
    have hj' : j < zs.length := by rw [hlen] at hj; omega
    have h1 := hcell j hj'
    have h00 := hcell 0 (by omega)
    have hspot : spot = none := by simpa [Addr.add] using World.cell?_spot h00
    clear h00
    subst hspot
    rw [Addr.add_lit] at h1
    refine ⟨rfl, World.block_lt_of_cell? _ _ h1, ?_⟩
    rw [h1, List.getElem_take, List.getD_eq_getElem?_getD, List.getElem?_eq_getElem hj']
    rfl

end Go.Proofs.YtmmgekchfgmcdaaGreatDoor
