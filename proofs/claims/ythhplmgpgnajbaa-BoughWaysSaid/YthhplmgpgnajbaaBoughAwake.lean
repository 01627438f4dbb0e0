/-
  The document's example.
-/
import Derived.Test.YthhplmgpgnajbaaBoughSame
import Derived.Test.YthhplmgpgnajbaaBoughWays
import Derived.Test.YthhplmgpgnajbaaBoughRCom
namespace Go.Proofs.Ythhplmgpgnajbaa
open Go.RowKit Go.Lib

theorem aw_root : Bo.Root 5 = 7 := by decide +kernel
theorem aw_left : Bo.Left 5 7 = 3 := by decide +kernel
theorem aw_right : Bo.Right 5 7 = 8 := by decide +kernel
theorem aw_direct : Bo.Direct 5 2 = [5, 3, 7] := by decide +kernel
theorem aw_common : Bo.Common 5 0 3 = 3 := by decide +kernel

set_option maxRecDepth 100000 in
set_option maxHeartbeats 1600000 in
theorem awake_calls (HL : LenIs) (w : World) : Calls Try.prog 13 #[] w fun e w' => e = .returned (.bool true) ∧ Kept w.heap.size w.heap.size w w' := by
  have h1 := fun w => rootof_calls HL 5 w
  have h2 := fun w => left_calls_of HL 5 7 w
  have h3 := fun w => right_calls_of HL 5 7 w
  have h4 := fun w => direct_calls HL 5 2 w
  have h5 := fun w => common_calls HL 5 0 3 w
  simp only [aw_root, aw_left, aw_right, aw_direct, aw_common] at h1 h2 h3 h4 h5
  have H1 := Lib.hid h1
  have H2 := Lib.hid h2
  have H3 := Lib.hid h3
  have H4 := Lib.hid h4
  have H5 := Lib.hid h5
  clear h1 h2 h3 h4 h5
  go_enter Try.func13, Try.ntmps13
  have k0 : Kept w.heap.size w.heap.size w w := Kept.refl _ _ _
  go_wp2_with (first
    | (go_at_call 14; refine (H1.out _).mono ?_; rintro e w1 ⟨rfl, k1⟩; have K1 := Lib.hid k1)
    | (go_at_call 16; refine (H2.out _).mono ?_; rintro e w2 ⟨rfl, k2⟩; have K2 := Lib.hid (K1.out.trans (k2.mono K1.out.size (fun i hi _ => Nat.ne_of_lt (Nat.lt_of_lt_of_le hi K1.out.size)))))
    | (go_at_call 18; refine (H3.out _).mono ?_; rintro e w3 ⟨rfl, k3⟩; have K3 := Lib.hid (K2.out.trans (k3.mono K2.out.size (fun i hi _ => Nat.ne_of_lt (Nat.lt_of_lt_of_le hi K2.out.size)))))
    | (go_at_call 25; refine (H4.out _).mono ?_; rintro e w4 ⟨v4, rfl, i4, k4⟩; have K4 := Lib.hid (K3.out.trans (k4.mono K3.out.size (fun i hi _ => Nat.ne_of_lt (Nat.lt_of_lt_of_le hi K3.out.size)))); have HS := Lib.hid (same_calls v4 _ _ _ [5, 3, 7] [5, 3, 7] (w4.alloc (.cells #[.int .i64 5, .int .i64 3, .int .i64 7] 3)) (i4.alloc _) (Ints.new w4 [5, 3, 7] (by decide)) (by decide)))
    | (go_at_call 24; refine HS.out.mono ?_; rintro e w5 ⟨rfl, k5⟩; have K5 := Lib.hid ((K4.out.alloc K4.out.size (.cells #[.int .i64 5, .int .i64 3, .int .i64 7] 3)).trans (k5.mono (by have := K4.out.size; simp; omega) (fun i hi _ => by have := K4.out.size; simp; omega))))
    | (go_at_call 27; refine (H5.out _).mono ?_; rintro e w6 ⟨rfl, k6⟩; have K6 := Lib.hid (K5.out.trans (k6.mono K5.out.size (fun i hi _ => Nat.ne_of_lt (Nat.lt_of_lt_of_le hi K5.out.size))))))
  go_ret
  exact ⟨rfl, K6.out⟩

end Go.Proofs.Ythhplmgpgnajbaa
