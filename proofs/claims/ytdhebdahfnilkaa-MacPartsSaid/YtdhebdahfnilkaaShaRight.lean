/-
  The landed digest's turning of a word.
-/
import Derived.Test.YtdhebdahfnilkaaShaCells
namespace Go.Proofs.Ytdhebdahfnilkaa
open Go.RowKit

theorem low_bits (n m : Nat) (h : n + m = 32) (h1 : 1 ≤ n) (h2 : 1 ≤ m) : bits BinOp.and IntKind.u64 (IntKind.u64.wrap (-(n : Int))) 31 = (m : Int) := by
  have e1 : IntKind.u64.wrap (-(n : Int)) = ((18446744073709551616 - n : Nat) : Int) := by rw [IntKind.wrap_u64]; omega
  rw [e1, show (31 : Int) = ((31 : Nat) : Int) from rfl, u64_and_nat _ _ (by omega) (by omega), show (31 : Nat) = 2 ^ 5 - 1 by decide, Nat.and_two_pow_sub_one_eq_mod]
  omega

theorem rot_calls (x : UInt32) (n m : Nat) (h : n + m = 32) (h1 : 1 ≤ n) (h2 : 1 ≤ m) (w : World) : Calls Try.prog 42 #[.int .u32 (x.toNat : Int), .int .i64 (-(n : Int))] w fun e w' => e = .returned (.int .u32 ((Sm.rotr x n).toNat : Int)) ∧ w' = w := by
  have hlt := x.toNat_lt
  have hq : bits BinOp.or IntKind.u32 ((x.toNat : Int) * 2 ^ m % 4294967296) ((x.toNat : Int) / 2 ^ n) = ((Sm.rotr x n).toNat : Int) := by
    have := w32_or (x.toNat * 2 ^ (32 - n) % 4294967296) (x.toNat / 2 ^ n) (Nat.mod_lt _ (by decide)) (Nat.lt_of_le_of_lt (Nat.div_le_self _ _) hlt)
    rw [Nat.or_comm] at this
    rw [Sm.rotr, ← this, show 32 - n = m by omega]
    simp
  have Hq := Lib.hid hq
  have hb := low_bits n m h h1 h2
  have hb2 : (32 : Int) - (m : Int) = (n : Int) := by omega
  have hm : m < 64 := by omega
  have hn : n < 64 := by omega
  clear hq
  go_enter Try.func42, Try.ntmps42
  go_wp2
  rw [Hq.out]
  go_ret
  exact ⟨rfl, rfl⟩

theorem right_calls (x : UInt32) (n m : Nat) (h : n + m = 32) (h1 : 1 ≤ n) (h2 : 1 ≤ m) (w : World) : Calls Try.prog 35 #[.int .u32 (x.toNat : Int), .int .i64 (n : Int)] w fun e w' => e = .returned (.int .u32 ((Sm.rotr x n).toNat : Int)) ∧ w' = w := by
  have hn : n < 64 := by omega
  have hr := rot_calls x n m h h1 h2 w
  go_enter Try.func35, Try.ntmps35
  go_wp2_with fail
  refine hr.mono ?_
  rintro e w' ⟨rfl, rfl⟩
  go_wp2
  go_ret
  exact ⟨rfl, rfl⟩

/-- The turnings that the digest uses, at their very numbers. -/
theorem right2 (x : UInt32) (w : World) : Calls Try.prog 35 #[.int .u32 (x.toNat : Int), .int .i64 2] w fun e w' => e = .returned (.int .u32 ((Sm.rotr x 2).toNat : Int)) ∧ w' = w := right_calls x 2 30 rfl (by decide) (by decide) w
theorem right6 (x : UInt32) (w : World) : Calls Try.prog 35 #[.int .u32 (x.toNat : Int), .int .i64 6] w fun e w' => e = .returned (.int .u32 ((Sm.rotr x 6).toNat : Int)) ∧ w' = w := right_calls x 6 26 rfl (by decide) (by decide) w
theorem right7 (x : UInt32) (w : World) : Calls Try.prog 35 #[.int .u32 (x.toNat : Int), .int .i64 7] w fun e w' => e = .returned (.int .u32 ((Sm.rotr x 7).toNat : Int)) ∧ w' = w := right_calls x 7 25 rfl (by decide) (by decide) w
theorem right11 (x : UInt32) (w : World) : Calls Try.prog 35 #[.int .u32 (x.toNat : Int), .int .i64 11] w fun e w' => e = .returned (.int .u32 ((Sm.rotr x 11).toNat : Int)) ∧ w' = w := right_calls x 11 21 rfl (by decide) (by decide) w
theorem right13 (x : UInt32) (w : World) : Calls Try.prog 35 #[.int .u32 (x.toNat : Int), .int .i64 13] w fun e w' => e = .returned (.int .u32 ((Sm.rotr x 13).toNat : Int)) ∧ w' = w := right_calls x 13 19 rfl (by decide) (by decide) w
theorem right17 (x : UInt32) (w : World) : Calls Try.prog 35 #[.int .u32 (x.toNat : Int), .int .i64 17] w fun e w' => e = .returned (.int .u32 ((Sm.rotr x 17).toNat : Int)) ∧ w' = w := right_calls x 17 15 rfl (by decide) (by decide) w
theorem right18 (x : UInt32) (w : World) : Calls Try.prog 35 #[.int .u32 (x.toNat : Int), .int .i64 18] w fun e w' => e = .returned (.int .u32 ((Sm.rotr x 18).toNat : Int)) ∧ w' = w := right_calls x 18 14 rfl (by decide) (by decide) w
theorem right19 (x : UInt32) (w : World) : Calls Try.prog 35 #[.int .u32 (x.toNat : Int), .int .i64 19] w fun e w' => e = .returned (.int .u32 ((Sm.rotr x 19).toNat : Int)) ∧ w' = w := right_calls x 19 13 rfl (by decide) (by decide) w
theorem right22 (x : UInt32) (w : World) : Calls Try.prog 35 #[.int .u32 (x.toNat : Int), .int .i64 22] w fun e w' => e = .returned (.int .u32 ((Sm.rotr x 22).toNat : Int)) ∧ w' = w := right_calls x 22 10 rfl (by decide) (by decide) w
theorem right25 (x : UInt32) (w : World) : Calls Try.prog 35 #[.int .u32 (x.toNat : Int), .int .i64 25] w fun e w' => e = .returned (.int .u32 ((Sm.rotr x 25).toNat : Int)) ∧ w' = w := right_calls x 25 7 rfl (by decide) (by decide) w

end Go.Proofs.Ytdhebdahfnilkaa
