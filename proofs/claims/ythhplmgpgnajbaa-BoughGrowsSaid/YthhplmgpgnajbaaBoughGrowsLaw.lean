/-
  The statement BoughGrows: its walk.
-/
import Derived.Test.YthhplmgpgnajbaaBoughLaws
import Derived.Test.YthhplmgpgnajbaaBoughGrow
namespace Go.Proofs.Ythhplmgpgnajbaa
open Go.RowKit Go.Lib

set_option maxRecDepth 100000 in
set_option maxHeartbeats 3200000 in
theorem boughgrows_walk (s d : Int) (hs0 : 0 ≤ s) (hs : s ≤ 255) (hd0 : 0 ≤ d) (hd : d ≤ 255) (w : World) : Calls Try.prog 7 #[.int .u8 s, .int .u8 d] w fun e w' => e = .returned (.bool true) ∧ Kept w.heap.size w.heap.size w w' := by
  have KC := Lib.hid (Kept.refl w.heap.size w.heap.size w)
  go_enter Try.func7, Try.ntmps7
  go_upto_region 5 with (go_at_call 13; refine (awake_calls lenIs _).mono ?_; rintro e w2 ⟨rfl, k2⟩; replace KC := Lib.hid (KC.out.next k2))
  obtain ⟨n, hn⟩ : ∃ n : Nat, 1 + s % 63 = (n : Int) := ⟨(1 + s % 63).toNat, by omega⟩
  have hn1 : 1 ≤ n := by omega
  have hn63 : n ≤ 63 := by omega
  rw [hn]
  obtain ⟨x, hx⟩ : ∃ x : Nat, d % (2 * (n : Int) - 1) = (x : Int) := ⟨(d % (2 * (n : Int) - 1)).toNat, by have := Int.emod_nonneg d (show (2 * (n : Int) - 1) ≠ 0 by omega); omega⟩
  have hx2 : x ≤ 2 * n - 2 := by have := Int.emod_lt_of_pos d (show 0 < 2 * (n : Int) - 1 by omega); omega
  rw [hx]
  clear hn hx hs0 hs hd0 hd
  obtain ⟨g1, g2, g3, g4⟩ := Bo.grown hn1 hn63 hx2
  have hb : Bo.Behind n x ≤ 64 ∧ 0 ≤ Bo.Behind n x := by
    have hin : Bo.In 0 n x := ⟨hn1, by omega, by omega⟩
    obtain ⟨a, m, p, b, _, _, hp, _, hsz⟩ := Bo.seg_of hin (by omega)
    obtain ⟨_, _, _, e4⟩ := Bo.say hin (by omega) hp
    rw [e4]
    omega
  obtain ⟨hb1, hb2⟩ := hb
  have hn64 : (n : Int) ≤ 63 := by omega
  have h1 := fun w => left_calls_of lenIs n x w
  have h2 := fun w => leaves_calls lenIs n (Bo.Left n x) w
  have h3 := fun w => left_calls_of lenIs (n + 1) x w
  have h4 := fun w => leaves_calls lenIs (n + 1) (Bo.Left (n + 1) x) w
  have h5 := fun w => leaves_calls lenIs n x w
  have h6 := fun w => leaves_calls lenIs (n + 1) x w
  rw [← g1, ← g2] at h4
  generalize Bo.First n (Bo.Left n x) = f at h2 h4
  generalize Bo.Behind n (Bo.Left n x) = g at h2 h4
  generalize Bo.Left n x = l1 at h1 h2
  generalize Bo.Left (n + 1) x = l2 at h3 h4
  generalize Bo.Behind n x = e1 at h5 g3 g4 hb1 hb2
  generalize Bo.Behind (n + 1) x = e2 at h6 g3 g4
  have H1 := Lib.hid h1
  have H2 := Lib.hid h2
  have H3 := Lib.hid h3
  have H4 := Lib.hid h4
  have H5 := Lib.hid h5
  have H6 := Lib.hid h6
  have g3' : e2 ≥ e1 := g3
  clear h1 h2 h3 h4 h5 h6 g1 g2 hn1 hn63 hx2 g3
  go_wp2_with (first
    | (go_at_call 16; refine (H1.out _).mono ?_; rintro e w2 ⟨rfl, k2⟩; replace KC := Lib.hid (KC.out.next k2); clear H1)
    | (go_at_call 29; refine (H2.out _).mono ?_; rintro e w2 ⟨rfl, k2⟩; replace KC := Lib.hid (KC.out.next k2); clear H2)
    | (go_at_call 16; refine (H3.out _).mono ?_; rintro e w2 ⟨rfl, k2⟩; replace KC := Lib.hid (KC.out.next k2); clear H3)
    | (go_at_call 29; refine (H4.out _).mono ?_; rintro e w2 ⟨rfl, k2⟩; replace KC := Lib.hid (KC.out.next k2); clear H4)
    | (go_at_call 29; refine (H5.out _).mono ?_; rintro e w2 ⟨rfl, k2⟩; replace KC := Lib.hid (KC.out.next k2); clear H5)
    | (go_at_call 29; refine (H6.out _).mono ?_; rintro e w2 ⟨rfl, k2⟩; replace KC := Lib.hid (KC.out.next k2); clear H6))
  go_ret
  exact ⟨rfl, KC.out⟩

end Go.Proofs.Ythhplmgpgnajbaa
