/-
  Opening what comes in: a digest, a thing, a slice of things.
-/
import Derived.Test.YtdnnccnicaoniaaDoorWireLaid
import Derived.Test.YtdnnccnicaoniaaDoorWireThing
import Derived.Deep.Slices

namespace Go.Proofs.YtdnnccnicaoniaaDoor
open Go.ChangeShapes Go.WideShapes Go.ChangeAt Go.RowKit Go.Deep

theorem wireCells5 : Tryd.prog.cellsOf 5 = 1 := by kernel_rfl
theorem wireCells9 : Tryd.prog.cellsOf 9 = 1 := by kernel_rfl
theorem wireCells4 : Tryd.prog.cellsOf 4 = 1 := by kernel_rfl
theorem wireCells30 : Tryd.prog.cellsOf 23 = 32 := by kernel_rfl
section
variable {H : Type} {enc : TypeId × Value → H} {w : World} {base : Nat} {spare : Nat → Bool} {held : Bool}

theorem one_at (cs : List Value) (i : Nat) (v : Value) (h : (cs.drop i).take 1 = [v]) : cs[i]? = some v := by
  have : ((cs.drop i).take 1)[0]? = some v := by rw [h]; rfl
  simpa using this

theorem open_hash {fuel : Nat} {cs : List Value} {x : DataW H × List MemPlace} (h : DataW.trod enc Tryd.prog w base spare held fuel 23 cs = some x) : ∃ l : List UInt8, l.length = 32 ∧ cs = bcells l := by
  obtain ⟨xs, m, _, _, hl, hn, hel⟩ := DataW.trod_array Tryd.underlying23 h
  rw [wireCells30] at hl
  have key : ∀ i, i < 32 → ∃ c : UInt8, cs[i]? = some (.int .u8 c.toNat) := fun i hi => by
    have h1 := hel i hi
    rw [wireCells5, Nat.mul_one, List.getElem?_eq_getElem (by omega)] at h1
    obtain ⟨n, h2, _, h3⟩ := DataW.trod_int Tryd.underlying5 h1
    have hw := bounds_u8 h3
    refine ⟨UInt8.ofNat n.toNat, ?_⟩
    rw [one_at _ _ _ h2, UInt8.toNat_ofNat']
    congr 2
    omega
  obtain ⟨f, hf⟩ := choose_lt (α := UInt8) key
  refine ⟨(List.range 32).map f, by simp, ?_⟩
  apply List.ext_getElem?
  intro i
  by_cases hi : i < 32
  · rw [hf i hi]
    simp [bcells, hi]
  · rw [List.getElem?_eq_none (by omega), List.getElem?_eq_none (by simp [bcells]; omega)]

instance : Inhabited Th := ⟨⟨0, 0, ByteArray.empty, [], false⟩⟩

/-- A slice of things: its length, and what each is. -/
structure Things (w : World) (v : Value) (len : Nat) (T : Nat → Th) : Prop where
  lenLe : len ≤ 9223372036854775807
  ok : ∀ i, i < len → (T i).Ok
  ex : ∃ ao cap, v = .slice ao len cap ∧ (0 < len → ∃ g o, ao = some ⟨g, o, none⟩ ∧ g < w.heap.size ∧ ∀ i, i < len → w.rangeAt g (o + i * 36) (T i).cells)

end
end Go.Proofs.YtdnnccnicaoniaaDoor
