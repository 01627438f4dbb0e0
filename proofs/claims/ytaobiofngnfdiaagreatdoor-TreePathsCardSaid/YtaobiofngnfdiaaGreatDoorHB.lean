/-
 TreeDh; TreeHold: several texts in one.
-/
import Derived.Test.YtaobiofngnfdiaaGreatDoorHK
import Derived.Test.YtaobiofngnfdiaaGreatDoorHJ
import Derived.Test.YtaobiofngnfdiaaGreatDoorTreeBlank

namespace Go.Proofs.YtaobiofngnfdiaaGreatDoor

def Bo.memN : List Nat → Nat → Bool
 | [], _ => false
 | y :: D, i => if Nat.beq y i then true else Bo.memN D i
def Bo.chk (a : Nat) (D : List Nat) : List (Nat × Nat × Nat) → Bool
 | [] => true
 | (i, f, b) :: T => if Bo.memN D i == (if Nat.ble f a then Nat.blt a b else false) then Bo.chk a D T else false
def Bo.tab (n : Nat) : List (Nat × Nat × Nat) := (List.range (n - 1)).map fun i => (i, (Bo.part n (2 * i + 1)).1, (Bo.part n (2 * i + 1)).1 + (Bo.part n (2 * i + 1)).2.1)
def Bo.dh (n : Nat) : Bool := (List.range n).all fun a => Bo.chk a ((Bo.ups n ((2 * a : Nat) : Int)).map fun y => y.toNat / 2) (Bo.tab n)
end Go.Proofs.YtaobiofngnfdiaaGreatDoor

namespace Go.Proofs.YtaobiofngnfdiaaGreatDoor
open Go.RowKit Go.Lib
open List renaming setIfInBounds_toArray → sA, set_cons_zero → sB, set_cons_succ → sC
open BigFrame renaming wpList_want → wQ

theorem Bo.memN_any (i : Nat) : ∀ D : List Nat, Bo.memN D i = D.any (fun y => y == i)
 | [] => rfl
 | y :: D => by
  rw [Bo.memN, List.any_cons, Bo.memN_any i D]
  by_cases h : y = i
  ·rw [if_pos (by rw [h]; exact Nat.beq_refl i), show (y == i) = true by rw [beq_iff_eq]; exact h, Bool.true_or]
  ·rw [if_neg (fun e => h (Nat.eq_of_beq_eq_true e)), show (y == i) = false by rw [beq_eq_false_iff_ne]; exact h, Bool.false_or]
namespace Tt
def hold1 (n x : Int) (P : List Pr) (i : Nat) : List Pr := if Bo.Holds n ((2 * i + 1 : Nat) : Int) x then P.set i Pr.zero else P
/-- The first k parents looked at. -/
def holdsTo (n x : Int) (P : List Pr) : Nat → List Pr
 | 0 => P
 | k + 1 => hold1 n x (holdsTo n x P k) k
end Tt

end Go.Proofs.YtaobiofngnfdiaaGreatDoor
