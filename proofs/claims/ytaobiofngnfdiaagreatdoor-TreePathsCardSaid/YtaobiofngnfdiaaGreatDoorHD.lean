/-
 The parents above a leaf loosened, told in two ways.
-/
import Derived.Test.YtaobiofngnfdiaaGreatDoorTreeAdd
import Derived.Test.YtaobiofngnfdiaaGreatDoorHB

namespace Go.Proofs.YtaobiofngnfdiaaGreatDoor
open Go.RowKit Go.Lib
open List renaming setIfInBounds_toArray → sA, set_cons_zero → sB, set_cons_succ → sC
open BigFrame renaming wpList_want → wQ

def Bo.nodN : List Nat → Bool
 | [] => true
 | y :: D => if Bo.memN D y then false else Bo.nodN D
def Bo.dn (n : Nat) : Bool := (List.range n).all fun a => Bo.nodN ((Bo.ups n ((2 * a : Nat) : Int)).map fun y => y.toNat / 2)
theorem Bo.dn_all : ((List.range 65).all Bo.dn) = true := by decide +kernel
theorem Bo.dir_nodup {n a : Nat} (hn : n ≤ 64) (ha : a < n) : Bo.nodN ((Bo.Direct (n : Int) (a : Int)).map fun y => y.toNat / 2) = true := by
 rw [Bo.Direct, if_pos (Bo.leaf_of ha hn), show (2 : Int) * (a : Int) = ((2 * a : Nat) : Int) by omega]
 exact List.all_eq_true.1 (List.all_eq_true.1 Bo.dn_all n (List.mem_range.2 (by omega))) a (List.mem_range.2 ha)
namespace Tt
/-- A parent loosened if it is set and holds a leaf. -/
def holdPut1 (n : Int) (x : Nat) (P : List Pr) (i : Nat) : List Pr :=
 match P[i]? with
 | Option.some p => if (p.set && Bo.Holds n ((2 * i + 1 : Nat) : Int) (x : Int)) = true then P.set i (loosened x p) else P
 | Option.none => P
def holdPuts (n : Int) (x : Nat) (P : List Pr) : Nat → List Pr
 | 0 => P
 | k + 1 => holdPut1 n x (holdPuts n x P k) k
end Tt
section
variable {B : Nat → Prop} {w : World} {lv : Value} {g n c : Nat} {L : List Lf} {P : List Pr} {SL : List Value}
end

end Go.Proofs.YtaobiofngnfdiaaGreatDoor
