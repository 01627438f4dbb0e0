/-
  Hashes of nodes as mathematics.
-/
import Derived.Test.YtmmgekchfgmcdaaGreatDoorTreeText
import Derived.Test.YtmmgekchfgmcdaaGreatDoorGB
import Derived.Test.YtmmgekchfgmcdaaGreatDoorBoughSeg

namespace Go.Proofs.YtmmgekchfgmcdaaGreatDoor
open Go.RowKit Go.Lib

namespace Tt
def leafB : List UInt8 := [108, 101, 97, 102]
def nodeB : List UInt8 := [110, 111, 100, 101]
/-- The hash of the root of a part. -/
def hashSeg (L : List Lf) (P : List Pr) : Nat → Nat → Nat → List UInt8
  | 0, _, _ => []
  | k + 1, a, m => if m = 1 then Sm.sum (leafB ++ leafText (L.getD a Lf.zero)) else Sm.sum (nodeB ++ parentText (P.getD (Bo.root a m / 2) Pr.zero) ++ hashSeg L P k a (Bo.half m) ++ hashSeg L P k (a + Bo.half m) (m - Bo.half m))
theorem hashSeg_one (L : List Lf) (P : List Pr) (k a : Nat) : hashSeg L P (k + 1) a 1 = Sm.sum (leafB ++ leafText (L.getD a Lf.zero)) := by rw [hashSeg, if_pos rfl]
theorem hashSeg_two (L : List Lf) (P : List Pr) (k a m : Nat) (h : 2 ≤ m) : hashSeg L P (k + 1) a m = Sm.sum (nodeB ++ parentText (P.getD (Bo.root a m / 2) Pr.zero) ++ hashSeg L P k a (Bo.half m) ++ hashSeg L P k (a + Bo.half m) (m - Bo.half m)) := by rw [hashSeg, if_neg (by omega)]
end Tt

end Go.Proofs.YtmmgekchfgmcdaaGreatDoor
