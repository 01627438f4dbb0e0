/-
  The statements of bough that have no loop.
-/
import Derived.Test.YthhplmgpgnajbaaBoughAwake
import Derived.Test.YthhplmgpgnajbaaBoughLen
namespace Go.Proofs.Ythhplmgpgnajbaa
open Go.RowKit Go.Lib

theorem Kept.next {w w1 w2 : World} (h : Kept w.heap.size w.heap.size w w1) (k : Kept w1.heap.size w1.heap.size w1 w2) : Kept w.heap.size w.heap.size w w2 :=
  h.trans (k.mono h.size (fun _ hi _ => Nat.ne_of_lt (Nat.lt_of_lt_of_le hi h.size)))
theorem Bo.direct_length (n leaf : Int) : (Bo.Direct n leaf).length ≤ 66 := by
  rw [Bo.Direct]
  split
  · exact Bo.chain_length _ _
  · simp

set_option maxRecDepth 100000 in
set_option maxHeartbeats 1600000 in
theorem beside_calls (HL : LenIs) (n x : Int) (w : World) : Calls Try.prog 22 #[.int .i64 n, .int .i64 x] w fun e w' => e = .returned (.int .i64 (Bo.Beside n x)) ∧ Kept w.heap.size w.heap.size w w' := by
  have h1 := fun w => above_calls HL n x w
  have h2 := fun w => right_calls_of HL n (Bo.Above n x) w
  have h3 := fun w => left_calls_of HL n (Bo.Above n x) w
  rw [← Bo.beside_is n x]
  generalize Bo.Right n (Bo.Above n x) = r at h2 ⊢
  generalize Bo.Left n (Bo.Above n x) = l at h3 ⊢
  generalize Bo.Above n x = p at h1 h2 h3 ⊢
  have H1 := Lib.hid h1
  have H2 := Lib.hid h2
  have H3 := Lib.hid h3
  have KC := Lib.hid (Kept.refl w.heap.size w.heap.size w)
  clear h1 h2 h3 HL
  by_cases hp : p < 0
  · rw [if_pos hp]
    go_enter Try.func22, Try.ntmps22
    go_wp2_with (go_at_call 20; refine (H1.out _).mono ?_; rintro e w2 ⟨rfl, k2⟩; replace KC := Lib.hid (KC.out.next k2))
    go_ret
    exact ⟨rfl, KC.out⟩
  · rw [if_neg hp]
    by_cases hx : x < p
    · rw [if_pos hx]
      go_enter Try.func22, Try.ntmps22
      go_wp2_with (first
        | (go_at_call 20; refine (H1.out _).mono ?_; rintro e w2 ⟨rfl, k2⟩; replace KC := Lib.hid (KC.out.next k2))
        | (go_at_call 18; refine (H2.out _).mono ?_; rintro e w2 ⟨rfl, k2⟩; replace KC := Lib.hid (KC.out.next k2)))
      go_ret
      exact ⟨rfl, KC.out⟩
    · rw [if_neg hx]
      go_enter Try.func22, Try.ntmps22
      go_wp2_with (first
        | (go_at_call 20; refine (H1.out _).mono ?_; rintro e w2 ⟨rfl, k2⟩; replace KC := Lib.hid (KC.out.next k2))
        | (go_at_call 16; refine (H3.out _).mono ?_; rintro e w2 ⟨rfl, k2⟩; replace KC := Lib.hid (KC.out.next k2)))
      go_ret
      exact ⟨rfl, KC.out⟩

set_option maxRecDepth 100000 in
set_option maxHeartbeats 1600000 in
theorem rcommon_calls (n a b : Int) (w : World) : Calls Try.prog 28 #[.int .i64 n, .int .i64 a, .int .i64 b] w fun e W' => e = .returned (.int .i64 (Bo.Common n a b)) ∧ W' = w := by
  by_cases h : Bo.leaf n a = true ∧ Bo.leaf n b = true
  · obtain ⟨n, a, rfl, rfl, h1, h2⟩ := Bo.leaf_nat h.1
    obtain ⟨n', b, e, rfl, h3, h4⟩ := Bo.leaf_nat h.2
    obtain rfl : n = n' := by omega
    exact rcommon_yes n a b h1 h3 h2 w
  · have hE : Bo.Common n a b = -1 := by
      by_cases ha : Bo.leaf n a = true
      · have hb : Bo.leaf n b = false := by simpa [ha] using h
        rw [Bo.Common, if_pos ha, if_neg (fun e => by rw [e, hb] at ha; cases ha), Bo.lowest_none hb]
      · rw [Bo.Common, if_neg ha]
    have hT := fun w => rthere_calls n 0 w
    have h' : a < 0 ∨ b < 0 ∨ a ≥ n ∨ b ≥ n ∨ Bo.there n 0 = false := by
      by_cases h1 : a < 0
      · exact .inl h1
      by_cases h2 : b < 0
      · exact .inr (.inl h2)
      by_cases h3 : a ≥ n
      · exact .inr (.inr (.inl h3))
      by_cases h4 : b ≥ n
      · exact .inr (.inr (.inr (.inl h4)))
      refine .inr (.inr (.inr (.inr ?_)))
      simp [Bo.leaf] at h
      simp [Bo.there]
      omega
    have HE := Lib.hid hE
    have HT := Lib.hid hT
    have H' := Lib.hid h'
    clear hE hT h h'
    by_cases h1 : a < 0
    · go_enter Try.func28, Try.ntmps28
      go_wp2
      go_ret
      exact ⟨by rw [HE.out]; rfl, rfl⟩
    by_cases h2 : b < 0
    · go_enter Try.func28, Try.ntmps28
      go_wp2
      go_ret
      exact ⟨by rw [HE.out]; rfl, rfl⟩
    by_cases h3 : a ≥ n
    · go_enter Try.func28, Try.ntmps28
      go_wp2
      go_ret
      exact ⟨by rw [HE.out]; rfl, rfl⟩
    by_cases h4 : b ≥ n
    · go_enter Try.func28, Try.ntmps28
      go_wp2
      go_ret
      exact ⟨by rw [HE.out]; rfl, rfl⟩
    have h5 := (((H'.out.resolve_left h1).resolve_left h2).resolve_left h3).resolve_left h4
    rw [h5] at HT
    clear h5 H'
    go_enter Try.func28, Try.ntmps28
    go_wp2_with (go_at_call 36; refine (HT.out _).mono ?_; rintro e w1 ⟨rfl, hw1⟩; subst w1)
    go_ret
    exact ⟨by rw [HE.out]; rfl, rfl⟩

set_option maxRecDepth 100000 in
set_option maxHeartbeats 3200000 in
theorem boughroots_walk (n : Int) (w : World) : Calls Try.prog 8 #[.int .i64 n] w fun e w' => e = .returned (.bool true) ∧ Kept w.heap.size w.heap.size w w' := by
  have KC := Lib.hid (Kept.refl w.heap.size w.heap.size w)
  go_enter Try.func8, Try.ntmps8
  go_wp2_with (first
    | (go_at_call 13; refine (awake_calls lenIs _).mono ?_; rintro e w2 ⟨rfl, k2⟩; replace KC := Lib.hid (KC.out.next k2))
    | (go_at_call 14; refine (rootof_calls lenIs _ _).mono ?_; rintro e w2 ⟨rfl, k2⟩; replace KC := Lib.hid (KC.out.next k2))
    | (go_at_call 15; refine (rrootof_calls _ _).mono ?_; rintro e w2 ⟨rfl, hw2⟩; subst w2))
  go_ret
  exact ⟨rfl, KC.out⟩

set_option maxRecDepth 100000 in
set_option maxHeartbeats 3200000 in
theorem boughsides_walk (n x : Int) (w : World) : Calls Try.prog 9 #[.int .i64 n, .int .i64 x] w fun e w' => e = .returned (.bool true) ∧ Kept w.heap.size w.heap.size w w' := by
  have KC := Lib.hid (Kept.refl w.heap.size w.heap.size w)
  go_enter Try.func9, Try.ntmps9
  go_wp2_with (first
    | (go_at_call 13; refine (awake_calls lenIs _).mono ?_; rintro e w2 ⟨rfl, k2⟩; replace KC := Lib.hid (KC.out.next k2))
    | (go_at_call 16; refine (left_calls_of lenIs _ _ _).mono ?_; rintro e w2 ⟨rfl, k2⟩; replace KC := Lib.hid (KC.out.next k2))
    | (go_at_call 17; refine (rleft_calls _ _ _).mono ?_; rintro e w2 ⟨rfl, hw2⟩; subst w2)
    | (go_at_call 18; refine (right_calls_of lenIs _ _ _).mono ?_; rintro e w2 ⟨rfl, k2⟩; replace KC := Lib.hid (KC.out.next k2))
    | (go_at_call 19; refine (rright_calls _ _ _).mono ?_; rintro e w2 ⟨rfl, hw2⟩; subst w2))
  go_ret
  exact ⟨rfl, KC.out⟩

set_option maxRecDepth 100000 in
set_option maxHeartbeats 3200000 in
theorem boughabove_walk (n x : Int) (w : World) : Calls Try.prog 10 #[.int .i64 n, .int .i64 x] w fun e w' => e = .returned (.bool true) ∧ Kept w.heap.size w.heap.size w w' := by
  have KC := Lib.hid (Kept.refl w.heap.size w.heap.size w)
  go_enter Try.func10, Try.ntmps10
  go_wp2_with (first
    | (go_at_call 13; refine (awake_calls lenIs _).mono ?_; rintro e w2 ⟨rfl, k2⟩; replace KC := Lib.hid (KC.out.next k2))
    | (go_at_call 20; refine (above_calls lenIs _ _ _).mono ?_; rintro e w2 ⟨rfl, k2⟩; replace KC := Lib.hid (KC.out.next k2))
    | (go_at_call 21; refine (rabove_calls _ _ _).mono ?_; rintro e w2 ⟨rfl, hw2⟩; subst w2))
  go_ret
  exact ⟨rfl, KC.out⟩

set_option maxRecDepth 100000 in
set_option maxHeartbeats 3200000 in
theorem boughdirect_walk (n leaf : Int) (w : World) : Calls Try.prog 11 #[.int .i64 n, .int .i64 leaf] w fun e w' => e = .returned (.bool true) ∧ Kept w.heap.size w.heap.size w w' := by
  have KC := Lib.hid (Kept.refl w.heap.size w.heap.size w)
  go_enter Try.func11, Try.ntmps11
  go_wp2_with (first
    | (go_at_call 13; refine (awake_calls lenIs _).mono ?_; rintro e w2 ⟨rfl, k2⟩; replace KC := Lib.hid (KC.out.next k2))
    | (go_at_call 25; refine (direct_calls lenIs _ _ _).mono ?_; rintro e w2 ⟨v2, rfl, i2, k2⟩; replace KC := Lib.hid (KC.out.next k2); have HI := Lib.hid i2)
    | (go_at_call 26; refine (rdirect_calls _ _ _).mono ?_; rintro e w3 ⟨v3, rfl, i3, k3⟩; replace KC := Lib.hid (KC.out.next k3); have HS := Lib.hid (same_calls _ _ _ _ _ _ _ (HI.out.kept k3) i3 (Bo.direct_length _ _)))
    | (go_at_call 24; refine (HS.out).mono ?_; rintro e w4 ⟨he, k4⟩; rw [beq_self_eq_true] at he; subst he; replace KC := Lib.hid (KC.out.next k4)))
  go_ret
  exact ⟨rfl, KC.out⟩

set_option maxRecDepth 100000 in
set_option maxHeartbeats 3200000 in
theorem boughcommon_walk (n a b : Int) (w : World) : Calls Try.prog 12 #[.int .i64 n, .int .i64 a, .int .i64 b] w fun e w' => e = .returned (.bool true) ∧ Kept w.heap.size w.heap.size w w' := by
  have KC := Lib.hid (Kept.refl w.heap.size w.heap.size w)
  go_enter Try.func12, Try.ntmps12
  go_wp2_with (first
    | (go_at_call 13; refine (awake_calls lenIs _).mono ?_; rintro e w2 ⟨rfl, k2⟩; replace KC := Lib.hid (KC.out.next k2))
    | (go_at_call 27; refine (common_calls lenIs _ _ _ _).mono ?_; rintro e w2 ⟨rfl, k2⟩; replace KC := Lib.hid (KC.out.next k2))
    | (go_at_call 28; refine (rcommon_calls _ _ _ _).mono ?_; rintro e w2 ⟨rfl, hw2⟩; subst w2))
  go_ret
  refine ⟨?_, KC.out⟩
  show Ending.returned (.bool (Bo.Common n b a == Bo.Common n a b)) = _
  rw [Bo.common_comm, beq_self_eq_true]

set_option maxRecDepth 100000 in
set_option maxHeartbeats 3200000 in
theorem boughnodes_walk (n x : Int) (w : World) : Calls Try.prog 3 #[.int .i64 n, .int .i64 x] w fun e w' => e = .returned (.bool true) ∧ Kept w.heap.size w.heap.size w w' := by
  have KC := Lib.hid (Kept.refl w.heap.size w.heap.size w)
  go_enter Try.func3, Try.ntmps3
  go_wp2_with (first
    | (go_at_call 13; refine (awake_calls lenIs _).mono ?_; rintro e w2 ⟨rfl, k2⟩; replace KC := Lib.hid (KC.out.next k2))
    | (go_at_call 14; refine (rootof_calls lenIs _ _).mono ?_; rintro e w2 ⟨rfl, k2⟩; replace KC := Lib.hid (KC.out.next k2))
    | (go_at_call 15; refine (rrootof_calls _ _).mono ?_; rintro e w2 ⟨rfl, hw2⟩; subst w2)
    | (go_at_call 16; refine (left_calls_of lenIs _ _ _).mono ?_; rintro e w2 ⟨rfl, k2⟩; replace KC := Lib.hid (KC.out.next k2))
    | (go_at_call 17; refine (rleft_calls _ _ _).mono ?_; rintro e w2 ⟨rfl, hw2⟩; subst w2)
    | (go_at_call 18; refine (right_calls_of lenIs _ _ _).mono ?_; rintro e w2 ⟨rfl, k2⟩; replace KC := Lib.hid (KC.out.next k2))
    | (go_at_call 19; refine (rright_calls _ _ _).mono ?_; rintro e w2 ⟨rfl, hw2⟩; subst w2)
    | (go_at_call 20; refine (above_calls lenIs _ _ _).mono ?_; rintro e w2 ⟨rfl, k2⟩; replace KC := Lib.hid (KC.out.next k2))
    | (go_at_call 21; refine (rabove_calls _ _ _).mono ?_; rintro e w2 ⟨rfl, hw2⟩; subst w2)
    | (go_at_call 22; refine (beside_calls lenIs _ _ _).mono ?_; rintro e w2 ⟨rfl, k2⟩; replace KC := Lib.hid (KC.out.next k2))
    | (go_at_call 23; refine (rbeside_calls _ _ _).mono ?_; rintro e w2 ⟨rfl, hw2⟩; subst w2))
  go_ret
  exact ⟨rfl, KC.out⟩

set_option maxRecDepth 100000 in
set_option maxHeartbeats 3200000 in
theorem boughways_walk (n a b : Int) (w : World) : Calls Try.prog 4 #[.int .i64 n, .int .i64 a, .int .i64 b] w fun e w' => e = .returned (.bool true) ∧ Kept w.heap.size w.heap.size w w' := by
  have KC := Lib.hid (Kept.refl w.heap.size w.heap.size w)
  go_enter Try.func4, Try.ntmps4
  go_wp2_with (first
    | (go_at_call 13; refine (awake_calls lenIs _).mono ?_; rintro e w2 ⟨rfl, k2⟩; replace KC := Lib.hid (KC.out.next k2))
    | (go_at_call 25; refine (direct_calls lenIs _ _ _).mono ?_; rintro e w2 ⟨v2, rfl, i2, k2⟩; replace KC := Lib.hid (KC.out.next k2); have HI := Lib.hid i2)
    | (go_at_call 26; refine (rdirect_calls _ _ _).mono ?_; rintro e w3 ⟨v3, rfl, i3, k3⟩; replace KC := Lib.hid (KC.out.next k3); have HS := Lib.hid (same_calls _ _ _ _ _ _ _ (HI.out.kept k3) i3 (Bo.direct_length _ _)))
    | (go_at_call 24; refine (HS.out).mono ?_; rintro e w4 ⟨he, k4⟩; rw [beq_self_eq_true] at he; subst he; replace KC := Lib.hid (KC.out.next k4))
    | (go_at_call 27; refine (common_calls lenIs _ _ _ _).mono ?_; rintro e w2 ⟨rfl, k2⟩; replace KC := Lib.hid (KC.out.next k2))
    | (go_at_call 28; refine (rcommon_calls _ _ _ _).mono ?_; rintro e w2 ⟨rfl, hw2⟩; subst w2))
  go_ret
  exact ⟨rfl, KC.out⟩

set_option maxRecDepth 100000 in
set_option maxHeartbeats 3200000 in
theorem boughleaves_walk (n x leaf : Int) (w : World) : Calls Try.prog 5 #[.int .i64 n, .int .i64 x, .int .i64 leaf] w fun e w' => e = .returned (.bool true) ∧ Kept w.heap.size w.heap.size w w' := by
  have KC := Lib.hid (Kept.refl w.heap.size w.heap.size w)
  go_enter Try.func5, Try.ntmps5
  go_wp2_with (first
    | (go_at_call 13; refine (awake_calls lenIs _).mono ?_; rintro e w2 ⟨rfl, k2⟩; replace KC := Lib.hid (KC.out.next k2))
    | (go_at_call 29; refine (leaves_calls lenIs _ _ _).mono ?_; rintro e w2 ⟨rfl, k2⟩; replace KC := Lib.hid (KC.out.next k2))
    | (go_at_call 30; refine (rleaves_calls _ _ _).mono ?_; rintro e w2 ⟨rfl, hw2⟩; subst w2)
    | (go_at_call 31; refine (holds_calls lenIs _ _ _ _).mono ?_; rintro e w2 ⟨rfl, k2⟩; replace KC := Lib.hid (KC.out.next k2))
    | (go_at_call 32; refine (rholds_calls _ _ _ _).mono ?_; rintro e w2 ⟨rfl, hw2⟩; subst w2))
  go_ret
  exact ⟨rfl, KC.out⟩

end Go.Proofs.Ythhplmgpgnajbaa
