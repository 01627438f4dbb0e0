/-
  A side of the tree: its half, its root, its two sides; what is a tree, a node, a leaf.
-/
import Derived.Test.YtmmgekchfgmcdaaGreatDoorBoughMath
import Derived.Test.YtmmgekchfgmcdaaGreatDoorGA
import Derived.Test.YtmmgekchfgmcdaaGreatDoorChecked
import Derived.Deep.RegionWith
import Derived.Lib.Hide
import Derived.Lib.BitFns

namespace Go.Proofs.YtmmgekchfgmcdaaGreatDoor
open Go.RowKit Go.Lib

theorem Bo.len : ∀ m : Fin 65, 2 ≤ m.val → Lib.bitLen (m.val - 1) = Nat.log2 (m.val - 1) + 1 := by decide +kernel

/-- What math/bits.Len answers. -/
def LenIs : Prop := ∀ (x : Int) (w : World), 0 ≤ x → x ≤ 18446744073709551615 → Calls Tryz.prog 87 #[.int .u64 x] w fun e w' => e = .returned (.int .i64 (Lib.bitLen x.toNat)) ∧ w' = w

theorem Kept.ofDrew {w w2 : World} (k : Kept w.drew.heap.size w.drew.heap.size w.drew w2) : Kept w.heap.size w.heap.size w w2 := ⟨k.os, k.tape, k.output, k.size, k.block⟩

def sideV (a m : Nat) : Value := .agg #[.int .i64 (a : Int), .int .i64 (m : Int)]

set_option maxRecDepth 100000 in
set_option maxHeartbeats 1600000 in
theorem half_calls (HL : LenIs) (a m : Nat) (h2 : 2 ≤ m) (h64 : m ≤ 64) (w : World) : Calls Tryz.prog 132 #[.agg #[.int .i64 (a : Int), .int .i64 (m : Int)]] w fun e w' => e = .returned (.int .i64 (Bo.half m : Int)) ∧ Kept w.heap.size w.heap.size w w' := by
  have hlen := Bo.len ⟨m, by omega⟩ h2
  have hlog : Nat.log2 (m - 1) ≤ 6 := by
    rcases Nat.lt_or_ge 6 (Nat.log2 (m - 1)) with h | h
    · have h3 := Nat.log2_self_le (n := m - 1) (by omega)
      have := Nat.pow_le_pow_right (n := 2) (by omega) h
      omega
    · exact h
  obtain ⟨j, hj⟩ : ∃ j, j = Nat.log2 (m - 1) := ⟨_, rfl⟩
  have hh : Bo.half m = 2 ^ j := by rw [hj]; rfl
  dsimp only at hlen
  rw [← hj] at hlen hlog
  have hle : (2 ^ j : Nat) ≤ 2 ^ 6 := Nat.pow_le_pow_right (by decide) hlog
  have hcall : Calls Tryz.prog 87 #[.int .u64 ((m : Int) - 1)] (w.alloc (.cells #[.int .i64 (a : Int), .int .i64 (m : Int)] 112)) fun e w' => e = .returned (.int .i64 ((j : Int) + 1)) ∧ w' = w.alloc (.cells #[.int .i64 (a : Int), .int .i64 (m : Int)] 112) := by
    refine (HL _ _ (by omega) (by omega)).mono ?_
    rintro e w' ⟨rfl, rfl⟩
    refine ⟨?_, rfl⟩
    have e : ((m : Int) - 1).toNat = m - 1 := by omega
    rw [e, hlen]
    rfl
  rw [hh]
  have hsh : wrap64 ((2:Int) ^ j) = ((2 ^ j : Nat) : Int) := by
    have e : ((2:Int) ^ j) = ((2 ^ j : Nat) : Int) := by simp
    rw [e]
    unfold wrap64
    omega
  have HSH := Lib.hid hsh
  have HCALL := Lib.hid hcall
  have hj1 : (j : Int) ≤ 6 := by omega
  clear hh hle hsh hcall hlen hlog hj
  have hsz : Kept w.heap.size w.heap.size w (w.alloc (.cells #[.int .i64 (a : Int), .int .i64 (m : Int)] 112)) := (Kept.refl _ _ _).alloc (Nat.le_refl _) _
  have HK := Lib.hid hsz
  clear hsz
  go_enter Tryz.func132, Tryz.ntmps132
  go_wp2_with (go_at_call 87; refine HCALL.out.mono ?_; rintro e w2 ⟨rfl, rfl⟩)
  go_ret
  refine ⟨?_, HK.out⟩
  show Ending.returned (.int .i64 (wrap64 (2 ^ j))) = _
  rw [HSH.out]

set_option maxRecDepth 100000 in
set_option maxHeartbeats 1600000 in
theorem root_calls (HL : LenIs) (a m : Nat) (h1 : 1 ≤ m) (h64 : a + m ≤ 64) (w : World) : Calls Tryz.prog 90 #[.agg #[.int .i64 (a : Int), .int .i64 (m : Int)]] w fun e w' => e = .returned (.int .i64 (Bo.root a m : Int)) ∧ Kept w.heap.size w.heap.size w w' := by
  have hk0 : Kept w.heap.size w.heap.size w (w.alloc (.cells #[.int .i64 (a : Int), .int .i64 (m : Int)] 112)) := (Kept.refl _ _ _).alloc (Nat.le_refl _) _
  have HK := Lib.hid hk0
  clear hk0
  have hm64 : (m : Int) ≤ 64 := by omega
  have ha64 : (a : Int) ≤ 64 := by omega
  rcases Nat.lt_or_ge m 2 with h2 | h2
  · obtain rfl : m = 1 := by omega
    rw [Bo.root_one]
    go_enter Tryz.func90, Tryz.ntmps90
    go_wp2
    go_ret
    exact ⟨by simp, HK.out⟩
  · have hh := Bo.half_lt h2
    have hp := Bo.half_pos m
    have hcall := fun w => half_calls HL a m h2 (by omega) w
    rw [Bo.root_two h2]
    generalize Bo.half m = h at hh hp hcall ⊢
    have hne : ((m : Int) == 1) = false := by simp; omega
    have hwa : (a : Int) + (h : Int) ≤ 64 := by omega
    have hwb : 0 < (a : Int) + (h : Int) := by omega
    have HC := Lib.hid hcall
    have HE := Lib.hid (show IntKind.i64.wrap (IntKind.i64.wrap (2 * IntKind.i64.wrap ((a : Int) + (h : Int))) - 1) = ((2 * (a + h) - 1 : Nat) : Int) by simp only [IntKind.wrap_i64]; omega)
    clear hcall hh hp
    go_enter Tryz.func90, Tryz.ntmps90
    go_wp2
    have hP : (w.alloc (.cells #[.int .i64 (a : Int), .int .i64 (m : Int)] 112)).heap[w.heap.size]? = some (.cells #[.int .i64 (a : Int), .int .i64 (m : Int)] 112 (0, 0)) := heap_new _ _
    have hS : w.heap.size < (w.alloc (.cells #[.int .i64 (a : Int), .int .i64 (m : Int)] 112)).heap.size := by simp
    generalize w.alloc (.cells #[.int .i64 (a : Int), .int .i64 (m : Int)] 112) = w1 at HK hP hS ⊢
    obtain ⟨wa, hwa'⟩ : ∃ wa, wa = w.heap.size := ⟨_, rfl⟩
    rw [← hwa'] at hP HK hS ⊢
    have HWA := Lib.hid hwa'
    clear hwa'
    have HP := Lib.hid hP
    have c0 := two_cell0 hP
    have c1 := two_cell1 hP
    have HF : Hid (∀ w', Kept w1.heap.size w1.heap.size w1 w' → w'.cell? ⟨wa, 0, none⟩ = some (.int .i64 (a : Int))) := Lib.hid (fun w' k => two_cell0 ((k.block wa hS (Nat.ne_of_lt hS)).trans HP.out))
    have HKK : Hid (∀ w', Kept w1.heap.size w1.heap.size w1 w' → Kept wa wa w w') := Lib.hid (fun w' k => HK.out.trans (k.mono (Nat.le_of_lt hS) (fun i hi _ => by omega)))
    clear hP
    go_region_with (go_at_call 132; refine (HC.out _).mono ?_; rintro e w2 ⟨rfl, k2⟩; have K2 := HKK.out _ (Kept.ofDrew k2); have c2 := HF.out _ (Kept.ofDrew k2))
    all_goals
      go_wp2_with fail
      go_ret
      refine ⟨?_, by rw [← HWA.out]; exact K2⟩
      exact congrArg (fun x => Ending.returned (Value.int .i64 x)) HE.out

end Go.Proofs.YtmmgekchfgmcdaaGreatDoor
