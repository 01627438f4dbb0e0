/-
  The statements of bough that have no loop.
-/
import Derived.Test.YtmmgekchfgmcdaaGreatDoorBoughAwake
import Derived.Test.YtmmgekchfgmcdaaGreatDoorBoughLen

namespace Go.Proofs.YtmmgekchfgmcdaaGreatDoor
open Go.RowKit Go.Lib

theorem Kept.next {w w1 w2 : World} (h : Kept w.heap.size w.heap.size w w1) (k : Kept w1.heap.size w1.heap.size w1 w2) : Kept w.heap.size w.heap.size w w2 :=
  h.trans (k.mono h.size (fun _ hi _ => Nat.ne_of_lt (Nat.lt_of_lt_of_le hi h.size)))
theorem Bo.direct_length (n leaf : Int) : (Bo.Direct n leaf).length ≤ 66 := by
  rw [Bo.Direct]
  split
  · exact Bo.chain_length _ _
  · simp

set_option maxRecDepth 100000 in
set_option maxHeartbeats 1600000 in
theorem beside_calls (HL : LenIs) (n x : Int) (w : World) : Calls Tryz.prog 78 #[.int .i64 n, .int .i64 x] w fun e w' => e = .returned (.int .i64 (Bo.Beside n x)) ∧ Kept w.heap.size w.heap.size w w' := by
  have h1 := fun w => above_calls HL n x w
  have h2 := fun w => right_calls_of HL n (Bo.Above n x) w
  have h3 := fun w => left_calls_of HL n (Bo.Above n x) w
  rw [← Bo.beside_is n x]
  generalize Bo.Right n (Bo.Above n x) = r at h2 ⊢
  generalize Bo.Left n (Bo.Above n x) = l at h3 ⊢
  generalize Bo.Above n x = p at h1 h2 h3 ⊢
  have H1 := Lib.hid h1
  have H2 := Lib.hid h2
  have H3 := Lib.hid h3
  have KC := Lib.hid (Kept.refl w.heap.size w.heap.size w)
  clear h1 h2 h3 HL
  by_cases hp : p < 0
  · rw [if_pos hp]
    go_enter Tryz.func78, Tryz.ntmps78
    go_wp2_with (go_at_call 115; refine (H1.out _).mono ?_; rintro e w2 ⟨rfl, k2⟩; replace KC := Lib.hid (KC.out.next k2))
    go_ret
    exact ⟨rfl, KC.out⟩
  · rw [if_neg hp]
    by_cases hx : x < p
    · rw [if_pos hx]
      go_enter Tryz.func78, Tryz.ntmps78
      go_wp2_with (first
        | (go_at_call 115; refine (H1.out _).mono ?_; rintro e w2 ⟨rfl, k2⟩; replace KC := Lib.hid (KC.out.next k2))
        | (go_at_call 53; refine (H2.out _).mono ?_; rintro e w2 ⟨rfl, k2⟩; replace KC := Lib.hid (KC.out.next k2)))
      go_ret
      exact ⟨rfl, KC.out⟩
    · rw [if_neg hx]
      go_enter Tryz.func78, Tryz.ntmps78
      go_wp2_with (first
        | (go_at_call 115; refine (H1.out _).mono ?_; rintro e w2 ⟨rfl, k2⟩; replace KC := Lib.hid (KC.out.next k2))
        | (go_at_call 52; refine (H3.out _).mono ?_; rintro e w2 ⟨rfl, k2⟩; replace KC := Lib.hid (KC.out.next k2)))
      go_ret
      exact ⟨rfl, KC.out⟩

end Go.Proofs.YtmmgekchfgmcdaaGreatDoor
