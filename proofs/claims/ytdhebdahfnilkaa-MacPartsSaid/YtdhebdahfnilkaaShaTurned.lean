/-
  The document's own turning of a word, at the very numbers that its digest uses.
-/
import Derived.Test.YtdhebdahfnilkaaShaCells
namespace Go.Proofs.Ytdhebdahfnilkaa
open Go.RowKit

theorem turned2 (x : UInt32) (w : World) : Calls Try.prog 26 #[.int .u32 (x.toNat : Int), .int .u64 2] w fun e w' => e = .returned (.int .u32 ((Sm.rotr x 2).toNat : Int)) ∧ w' = w := turned_calls x 2 (by decide) (by decide) w
theorem turned6 (x : UInt32) (w : World) : Calls Try.prog 26 #[.int .u32 (x.toNat : Int), .int .u64 6] w fun e w' => e = .returned (.int .u32 ((Sm.rotr x 6).toNat : Int)) ∧ w' = w := turned_calls x 6 (by decide) (by decide) w
theorem turned7 (x : UInt32) (w : World) : Calls Try.prog 26 #[.int .u32 (x.toNat : Int), .int .u64 7] w fun e w' => e = .returned (.int .u32 ((Sm.rotr x 7).toNat : Int)) ∧ w' = w := turned_calls x 7 (by decide) (by decide) w
theorem turned11 (x : UInt32) (w : World) : Calls Try.prog 26 #[.int .u32 (x.toNat : Int), .int .u64 11] w fun e w' => e = .returned (.int .u32 ((Sm.rotr x 11).toNat : Int)) ∧ w' = w := turned_calls x 11 (by decide) (by decide) w
theorem turned13 (x : UInt32) (w : World) : Calls Try.prog 26 #[.int .u32 (x.toNat : Int), .int .u64 13] w fun e w' => e = .returned (.int .u32 ((Sm.rotr x 13).toNat : Int)) ∧ w' = w := turned_calls x 13 (by decide) (by decide) w
theorem turned17 (x : UInt32) (w : World) : Calls Try.prog 26 #[.int .u32 (x.toNat : Int), .int .u64 17] w fun e w' => e = .returned (.int .u32 ((Sm.rotr x 17).toNat : Int)) ∧ w' = w := turned_calls x 17 (by decide) (by decide) w
theorem turned18 (x : UInt32) (w : World) : Calls Try.prog 26 #[.int .u32 (x.toNat : Int), .int .u64 18] w fun e w' => e = .returned (.int .u32 ((Sm.rotr x 18).toNat : Int)) ∧ w' = w := turned_calls x 18 (by decide) (by decide) w
theorem turned19 (x : UInt32) (w : World) : Calls Try.prog 26 #[.int .u32 (x.toNat : Int), .int .u64 19] w fun e w' => e = .returned (.int .u32 ((Sm.rotr x 19).toNat : Int)) ∧ w' = w := turned_calls x 19 (by decide) (by decide) w
theorem turned22 (x : UInt32) (w : World) : Calls Try.prog 26 #[.int .u32 (x.toNat : Int), .int .u64 22] w fun e w' => e = .returned (.int .u32 ((Sm.rotr x 22).toNat : Int)) ∧ w' = w := turned_calls x 22 (by decide) (by decide) w
theorem turned25 (x : UInt32) (w : World) : Calls Try.prog 26 #[.int .u32 (x.toNat : Int), .int .u64 25] w fun e w' => e = .returned (.int .u32 ((Sm.rotr x 25).toNat : Int)) ∧ w' = w := turned_calls x 25 (by decide) (by decide) w

end Go.Proofs.Ytdhebdahfnilkaa
