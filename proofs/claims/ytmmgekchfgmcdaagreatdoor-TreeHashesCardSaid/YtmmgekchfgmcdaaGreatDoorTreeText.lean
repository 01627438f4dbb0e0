/-
  A leaf's and a parent's bytes.
-/
import Derived.Test.YtmmgekchfgmcdaaGreatDoorGX
import Derived.Test.YtmmgekchfgmcdaaGreatDoorGV

namespace Go.Proofs.YtmmgekchfgmcdaaGreatDoor
open Go.RowKit Go.Lib

namespace Tt
def leafText (l : Lf) : List UInt8 := if 0 < l.name then [1] ++ Wm.enc l.name.toNat ++ l.pub ++ l.ver ++ l.abv else [0]
def looseText (l : List Int) : List UInt8 := (l.map fun y => Wm.enc y.toNat).flatten
def parentText (p : Pr) : List UInt8 := if p.set then [1] ++ p.pub ++ p.abv ++ Wm.enc p.loose.length ++ looseText p.loose else [0]
theorem looseText_snoc (l : List Int) (y : Int) : looseText (l ++ [y]) = looseText l ++ Wm.enc y.toNat := by
  unfold looseText
  rw [List.map_append, List.flatten_append]
  simp
theorem looseText_length : ∀ l : List Int, (looseText l).length ≤ 8 * l.length
  | [] => Nat.le_refl _
  | y :: l => by
    have h1 := Wm.enc_length_le y.toNat
    have h2 := looseText_length l
    unfold looseText at h2 ⊢
    rw [List.map_cons, List.flatten_cons, List.length_append, List.length_cons]
    omega
theorem leafText_length {l : Lf} (h : l.Ok) : (leafText l).length ≤ 200 := by
  unfold leafText
  have h1 := Wm.enc_length_le l.name.toNat
  split
  · simp only [List.length_append, List.length_singleton, h.1, h.2.1, h.2.2]
    omega
  · simp
theorem parentText_length {p : Pr} (h : p.Ok) (hl : p.loose.length ≤ 1000) : (parentText p).length ≤ 10000 := by
  unfold parentText
  have h1 := Wm.enc_length_le p.loose.length
  have h2 := looseText_length p.loose
  split
  · simp only [List.length_append, List.length_singleton, h.1, h.2]
    omega
  · simp
end Tt
section
variable {w : World} {b : Nat} {l : Lf} {t : TypeId}
theorem lf_name (h : w.heap[b]? = some (.cells l.cells.toArray t (0, 0))) : w.cell? ⟨b, 0, none⟩ = some (.int .i64 l.name) := by
  rw [cell_of_row w b 0 _ _ _ h]
  exact l.at_name
theorem lf_part (h : w.heap[b]? = some (.cells l.cells.toArray t (0, 0))) (o : Nat) (d : List UInt8) (_hd : d.length = 32) (he : l.cells.toArray.extract o (o + 32) = (bcells d).toArray) : w.rangeAt b o (bcells d) := fun j v hj => by
  rw [cell_of_row w b (o + j) _ _ _ h]
  have h2 : (l.cells.toArray.extract o (o + 32))[j]? = some v := by rw [he]; simpa using hj
  rw [Array.getElem?_extract] at h2
  split at h2
  · exact h2
  · cases h2
end

end Go.Proofs.YtmmgekchfgmcdaaGreatDoor
