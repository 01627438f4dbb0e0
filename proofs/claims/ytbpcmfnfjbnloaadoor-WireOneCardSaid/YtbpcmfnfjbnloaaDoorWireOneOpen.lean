/-
  Opening a slice of bytes that comes in.
-/
import Derived.Test.YtbpcmfnfjbnloaaDoorWireLaid
import Derived.Test.YtbpcmfnfjbnloaaDoorWireOneLaw
namespace Go.Proofs.YtbpcmfnfjbnloaaDoor
open Go.ChangeShapes Go.WideShapes Go.ChangeAt Go.RowKit

theorem wireCells5' : Tryd.prog.cellsOf 5 = 1 := by kernel_rfl

theorem open_u8s {H : Type} {enc : TypeId × Value → H} {w : World} {v : Value} {d : DataW H} {p : List MemPlace} (hv : ∃ ao len cap, v = .slice ao len cap) (h : DataW.Trod enc Tryd.prog w 0 (fun _ => true) true 56 v d p) : ∃ len K, U8s w v len K := by
  obtain ⟨ao, len, cap, rfl⟩ := hv
  obtain ⟨fuel, hf⟩ := h
  rcases open_ints Tryd.underlying56 Tryd.underlying5 wireCells5' hf with ⟨hcs, _⟩ | ⟨a, len', cap', zs, hcs, _, hl, hm, hz, _, hcell, hwz⟩
  · simp [Value.cells] at hcs
    obtain ⟨rfl, rfl, rfl⟩ := hcs
    exact ⟨0, fun _ => 0, by omega, fun i hi => absurd hi (Nat.not_lt_zero _), none, 0, rfl, fun h => absurd h (Nat.lt_irrefl _)⟩
  · simp [Value.cells] at hcs
    obtain ⟨rfl, rfl, rfl⟩ := hcs
    simp at hz
    have hb : ∀ i, i < zs.length → 0 ≤ zs.getD i 0 ∧ zs.getD i 0 ≤ 255 := fun i hi => by
      rw [List.getD_eq_getElem?_getD, List.getElem?_eq_getElem hi]
      exact bounds_u8 (hwz _ (List.getElem_mem hi))
    refine ⟨len, fun i => (zs.getD i 0).toNat, by unfold maxLen at hm; omega, fun i hi => ?_, some a, _, rfl, fun hpos => ?_⟩
    · have := hb i (by omega)
      omega
    · obtain ⟨g, o, rfl, hc⟩ := ints_at hcell (by omega)
      refine ⟨g, o, rfl, World.block_lt_of_cell? _ _ (hc 0 (by omega)), fun i hi => ?_⟩
      have h1 := hb i (by omega)
      have e : (((zs.getD i 0).toNat : Nat) : Int) = zs.getD i 0 := by omega
      rw [hc i (by omega), ← e]
      simp

end Go.Proofs.YtbpcmfnfjbnloaaDoor
