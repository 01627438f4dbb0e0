/-
  The document's own answers: half, root, what is there, the way down.
-/
import Derived.Test.YtmmgekchfgmcdaaGreatDoorBoughMath
import Derived.Test.YtmmgekchfgmcdaaGreatDoorChecked
import Derived.Lib.Hide
import Derived.LoopTactic
import Derived.WalkKit

namespace Go.Proofs.YtmmgekchfgmcdaaGreatDoor
open Go.RowKit Go.Lib

set_option maxRecDepth 100000 in
theorem rthere_calls (n x : Int) (w : World) : Calls Tryz.prog 102 #[.int .i64 n, .int .i64 x] w fun e w' => e = .returned (.bool (Bo.there n x)) ∧ w' = w := by
  by_cases h1 : 1 ≤ n
  · by_cases h2 : n ≤ 64
    · by_cases h3 : 0 ≤ x
      · go_enter Tryz.func102, Tryz.ntmps102
        go_wp2
        go_ret
        exact ⟨by simp [Bo.there, h1, h2, h3], rfl⟩
      · have h5 : ¬ x ≥ 0 := h3
        go_enter Tryz.func102, Tryz.ntmps102
        go_wp2
        go_ret
        exact ⟨by simp [Bo.there]; omega, rfl⟩
    · go_enter Tryz.func102, Tryz.ntmps102
      go_wp2
      go_ret
      exact ⟨by simp [Bo.there]; omega, rfl⟩
  · have h5 : ¬ n ≥ 1 := h1
    go_enter Tryz.func102, Tryz.ntmps102
    go_wp2
    go_ret
    exact ⟨by simp [Bo.there]; omega, rfl⟩

set_option maxRecDepth 100000 in
set_option maxHeartbeats 1600000 in
theorem rhalf_calls (m : Nat) (h2 : 2 ≤ m) (h64 : m ≤ 64) (w : World) : Calls Tryz.prog 110 #[.int .i64 (m : Int)] w fun e w' => e = .returned (.int .i64 (Bo.half m : Int)) ∧ w' = w := by
  have hm64 : (m : Int) ≤ 64 := by omega
  have HH : Hid (∀ i : Nat, 2 ^ i < m → ¬ 2 * 2 ^ i < m → Bo.half m = 2 ^ i) := Lib.hid (fun i h1 h2 => Bo.half_one h1 h2)
  go_enter Tryz.func110, Tryz.ntmps110
  go_wp2
  go_loopw [3] (fun s3 w9 => ∃ i : Nat, s3 = .int .i64 ((2 ^ i : Nat) : Int) ∧ Hid (2 ^ i < m) ∧ w9 = w) (fun s3 _ => m - (RowKit.intOf s3).toNat)
  case atStart => exact ⟨0, rfl, Lib.hid (by omega), rfl⟩
  case round =>
    obtain ⟨i, rfl, hlt, hw⟩ := hrel
    subst wr
    have hlt' := hlt.out
    have hpos := Nat.one_le_two_pow (n := i)
    have HP : Hid (2 ^ (i + 1) = 2 * 2 ^ i) := Lib.hid (by rw [Nat.pow_succ]; omega)
    have HU := Lib.hid (fun h : ¬ 2 * 2 ^ i < m => HH.out i hlt.out h)
    generalize hk : 2 ^ i = k at hlt' hpos HP HU ⊢
    have HK := Lib.hid hk
    clear hk
    have hki : (k : Int) ≤ 64 := by omega
    by_cases hc : 2 * k < m
    · have hc' : 2 * (k : Int) < (m : Int) := by omega
      go_wp2
      go_roundw
      case rel => exact ⟨i + 1, by rw [HP.out]; simp, Lib.hid (by rw [HP.out]; exact hc), trivial⟩
      case measure => simp [RowKit.intOf]; omega
    · have hc' : ¬ 2 * (k : Int) < (m : Int) := by omega
      go_wp2
      go_ret
      exact ⟨by rw [HU.out hc]; rfl, rfl⟩

set_option maxRecDepth 100000 in
set_option maxHeartbeats 1600000 in
theorem rroot_calls (a m : Nat) (h1 : 1 ≤ m) (h64 : a + m ≤ 64) (w : World) : Calls Tryz.prog 103 #[.int .i64 (a : Int), .int .i64 (m : Int)] w fun e w' => e = .returned (.int .i64 (Bo.root a m : Int)) ∧ w' = w := by
  have hm64 : (m : Int) ≤ 64 := by omega
  have ha64 : (a : Int) ≤ 64 := by omega
  rcases Nat.lt_or_ge m 2 with h2 | h2
  · obtain rfl : m = 1 := by omega
    rw [Bo.root_one]
    go_enter Tryz.func103, Tryz.ntmps103
    go_wp2
    go_ret
    exact ⟨by simp, rfl⟩
  · have hh := Bo.half_lt h2
    have hp := Bo.half_pos m
    have hcall := fun w => rhalf_calls m h2 (by omega) w
    rw [Bo.root_two h2]
    generalize Bo.half m = h at hh hp hcall ⊢
    have hne : ((m : Int) == 1) = false := by simp; omega
    have hwa : (a : Int) + (h : Int) ≤ 64 := by omega
    have hwb : 0 < (a : Int) + (h : Int) := by omega
    have HC := Lib.hid hcall
    have HE := Lib.hid (show ((2 * (a + h) - 1 : Nat) : Int) = 2 * ((a : Int) + (h : Int)) - 1 by omega)
    clear hcall hh hp
    go_enter Tryz.func103, Tryz.ntmps103
    go_wp2_with (go_at_call 110; refine (HC.out _).mono ?_; rintro e w1 ⟨rfl, hw1⟩; subst w1)
    go_ret
    exact ⟨by rw [HE.out]; rfl, rfl⟩

end Go.Proofs.YtmmgekchfgmcdaaGreatDoor
