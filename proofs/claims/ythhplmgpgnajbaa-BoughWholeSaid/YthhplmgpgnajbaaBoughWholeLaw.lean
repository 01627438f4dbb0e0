/-
  The statement BoughWhole: its walk.
-/
import Derived.Test.YthhplmgpgnajbaaBoughLaws
import Derived.Test.YthhplmgpgnajbaaBoughGrow
namespace Go.Proofs.Ythhplmgpgnajbaa
open Go.RowKit Go.Lib

theorem Bo.root_say {n : Nat} (h1 : 1 ≤ n) (h64 : n ≤ 64) : ∃ r : Int, Bo.Root n = r ∧ Bo.First n r = 0 ∧ Bo.Behind n r = (n : Int) ∧ Bo.Above n r = -1 := by
  have ht : Bo.there (n : Int) 0 = true := by simp [Bo.there]; omega
  have hs : Bo.Seg n 0 n (-1) (-1) := .top
  obtain ⟨e1, _, e3, e4⟩ := Bo.say (hs.inn h1) h64 (hs.part h1 h64)
  refine ⟨_, by rw [Bo.Root, if_pos ht, Int.toNat_natCast], e3, ?_, e1⟩
  rw [e4, Nat.zero_add]

set_option maxRecDepth 100000 in
set_option maxHeartbeats 6400000 in
theorem boughwhole_walk (s : Int) (hs0 : 0 ≤ s) (hs : s ≤ 255) (w : World) : Calls Try.prog 6 #[.int .u8 s] w fun e w' => e = .returned (.bool true) ∧ Kept w.heap.size w.heap.size w w' := by
  have KC := Lib.hid (Kept.refl w.heap.size w.heap.size w)
  go_enter Try.func6, Try.ntmps6
  go_upto_region 4 with (go_at_call 13; refine (awake_calls lenIs _).mono ?_; rintro e w2 ⟨rfl, k2⟩; replace KC := Lib.hid (KC.out.next k2))
  obtain ⟨n, hn⟩ : ∃ n : Nat, 1 + s % 64 = (n : Int) := ⟨(1 + s % 64).toNat, by omega⟩
  have hn1 : 1 ≤ n := by omega
  have hn64 : n ≤ 64 := by omega
  have hn64' : (n : Int) ≤ 64 := by omega
  rw [hn]
  clear hn hs0 hs
  go_wp2_with fail
  go_loopw [4] (fun s4 wr => ∃ x : Nat, Hid (x ≤ 2 * n - 1) ∧ s4 = .int .i64 (x : Int) ∧ Hid (Kept w.heap.size w.heap.size w wr)) (fun s4 _ => 2 * n - (RowKit.intOf s4).toNat)
  case atStart => exact ⟨0, Lib.hid (Nat.zero_le _), rfl, KC⟩
  case round =>
    clear KC
    obtain ⟨x, hx, rfl, KC⟩ := hrel
    by_cases hlast : x ≤ 2 * n - 2
    · have hle : (x : Int) ≤ 2 * (n : Int) - 2 := by omega
      have hx128 : (x : Int) ≤ 128 := by omega
      have hin : Bo.In 0 n x := ⟨hn1, by omega, by omega⟩
      obtain ⟨a, m, p, b, _, hroot, hp, hm, hsz⟩ := Bo.seg_of hin hn64
      obtain ⟨_, _, e3, e4⟩ := Bo.say hin hn64 hp
      have h1 := fun w => leaves_calls lenIs n x w
      have h2 := fun w => left_calls_of lenIs n x w
      have h3 := fun w => right_calls_of lenIs n x w
      rw [e3, e4] at h1
      rcases Nat.lt_or_ge m 2 with hm2 | hm2
      · obtain rfl : m = 1 := by omega
        obtain ⟨s1, s2, s3⟩ := Bo.say_leaf hin hn64 hp
        rw [s1] at h2
        rw [s2] at h3
        have h4 := fun w => direct_calls lenIs n a w
        have h6 := Bo.six (n := n) (a := a) (by omega) hn64
        generalize Bo.Direct n a = L at h4 h6
        have hev : (x : Int) % 2 = 0 := by omega
        have hhalf : (x : Int) / 2 = (a : Int) := by omega
        have e5 : ((a + 1 : Nat) : Int) = (a : Int) + 1 := by omega
        rw [e5] at h1
        have ha64 : (a : Int) ≤ 64 := by omega
        have H1 := Lib.hid h1
        have H2 := Lib.hid h2
        have H3 := Lib.hid h3
        have H4 : Hid (∀ w, Calls Try.prog 25 #[.int .i64 (n : Int), .int .i64 (a : Int)] w fun e W' => (∃ g cap, ∃ k : Nat, e = .returned (.slice g k cap) ∧ (k : Int) ≤ 6) ∧ Kept w.heap.size w.heap.size w W') := Lib.hid (fun w => (h4 w).mono (fun e W' hq => by
          obtain ⟨v, hv1, hv2, hv3⟩ := hq
          obtain ⟨g, cap, hv⟩ := hv2.len
          exact ⟨⟨g, cap, L.length, by rw [hv1, hv], by omega⟩, hv3⟩))
        have HM := Lib.hid hlast
        clear h1 h2 h3 h4 h6 e3 e4 e5 s1 s2 s3 hp hroot hsz hin hm hm2 hlast hn1 hn64
        go_wp2_with (first
          | (go_at_call 29; refine (H1.out _).mono ?_; rintro e w2 ⟨rfl, k2⟩; replace KC := Lib.hid (KC.out.next k2); clear H1)
          | (go_at_call 16; refine (H2.out _).mono ?_; rintro e w2 ⟨rfl, k2⟩; replace KC := Lib.hid (KC.out.next k2); clear H2)
          | (go_at_call 18; refine (H3.out _).mono ?_; rintro e w2 ⟨rfl, k2⟩; replace KC := Lib.hid (KC.out.next k2); clear H3)
          | (go_at_call 25; refine (H4.out _).mono ?_; rintro e w2 ⟨⟨g, cap, k, rfl, hk⟩, k2⟩; replace KC := Lib.hid (KC.out.next k2); clear H4))
        go_roundw
        case rel => exact ⟨x + 1, Lib.hid (by have := HM.out; omega), by simp, KC⟩
        case measure => have := HM.out; simp [RowKit.intOf]; omega
      · obtain ⟨l, r, s1, s2, q1, q2, q3, q4, q5, q6, q7, q8⟩ := Bo.say_kids hin hn64 hp hm2
        rw [s1] at h2
        rw [s2] at h3
        have h4 := fun w => leaves_calls lenIs n l w
        have h5 := fun w => leaves_calls lenIs n r w
        have h6 := fun w => above_calls lenIs n l w
        have h7 := fun w => above_calls lenIs n r w
        have h8 := fun w => beside_calls lenIs n l w
        have h9 := fun w => beside_calls lenIs n r w
        rw [q1, q2] at h4
        rw [q3, q4] at h5
        rw [q5] at h6
        rw [q6] at h7
        rw [q7] at h8
        rw [q8] at h9
        have hodd : ¬ (x : Int) % 2 = 0 := by
          have := Bo.root_two (a := a) hm2
          have := Bo.half_pos m
          omega
        generalize ((a + Bo.half m : Nat) : Int) = c at h4 h5
        generalize ((a + m : Nat) : Int) = d at h1 h5
        have H1 := Lib.hid h1
        have H2 := Lib.hid h2
        have H3 := Lib.hid h3
        have H4 := Lib.hid h4
        have H5 := Lib.hid h5
        have H6 := Lib.hid h6
        have H7 := Lib.hid h7
        have H8 := Lib.hid h8
        have H9 := Lib.hid h9
        have HM := Lib.hid hlast
        clear h1 h2 h3 h4 h5 h6 h7 h8 h9 q1 q2 q3 q4 q5 q6 q7 q8 e3 e4 s1 s2 hp hroot hsz hin hm hm2 hlast hn1 hn64
        go_wp2_with (first
          | (go_at_call 29; refine (H1.out _).mono ?_; rintro e w2 ⟨rfl, k2⟩; replace KC := Lib.hid (KC.out.next k2); clear H1)
          | (go_at_call 16; refine (H2.out _).mono ?_; rintro e w2 ⟨rfl, k2⟩; replace KC := Lib.hid (KC.out.next k2); clear H2)
          | (go_at_call 18; refine (H3.out _).mono ?_; rintro e w2 ⟨rfl, k2⟩; replace KC := Lib.hid (KC.out.next k2); clear H3)
          | (go_at_call 29; refine (H4.out _).mono ?_; rintro e w2 ⟨rfl, k2⟩; replace KC := Lib.hid (KC.out.next k2); clear H4)
          | (go_at_call 29; refine (H5.out _).mono ?_; rintro e w2 ⟨rfl, k2⟩; replace KC := Lib.hid (KC.out.next k2); clear H5)
          | (go_at_call 20; refine (H6.out _).mono ?_; rintro e w2 ⟨rfl, k2⟩; replace KC := Lib.hid (KC.out.next k2); clear H6)
          | (go_at_call 20; refine (H7.out _).mono ?_; rintro e w2 ⟨rfl, k2⟩; replace KC := Lib.hid (KC.out.next k2); clear H7)
          | (go_at_call 22; refine (H8.out _).mono ?_; rintro e w2 ⟨rfl, k2⟩; replace KC := Lib.hid (KC.out.next k2); clear H8)
          | (go_at_call 22; refine (H9.out _).mono ?_; rintro e w2 ⟨rfl, k2⟩; replace KC := Lib.hid (KC.out.next k2); clear H9))
        go_roundw
        case rel => exact ⟨x + 1, Lib.hid (by have := HM.out; omega), by simp, KC⟩
        case measure => have := HM.out; simp [RowKit.intOf]; omega
    · have hle : ¬ (x : Int) ≤ 2 * (n : Int) - 2 := by omega
      have hx128 : (x : Int) ≤ 128 := by have := hx.out; omega
      obtain ⟨r, e1, e2, e3, e4⟩ := Bo.root_say hn1 hn64
      have h1 := fun w => rootof_calls lenIs n w
      have h2 := fun w => leaves_calls lenIs n r w
      have h3 := fun w => above_calls lenIs n r w
      rw [e1] at h1
      rw [e2, e3] at h2
      rw [e4] at h3
      have H1 := Lib.hid h1
      have H2 := Lib.hid h2
      have H3 := Lib.hid h3
      clear h1 h2 h3 e1 e2 e3 e4 hn1 hn64 hlast
      go_wp2_with (first
        | (go_at_call 14; refine (H1.out _).mono ?_; rintro e w2 ⟨rfl, k2⟩; replace KC := Lib.hid (KC.out.next k2))
        | (go_at_call 29; refine (H2.out _).mono ?_; rintro e w2 ⟨rfl, k2⟩; replace KC := Lib.hid (KC.out.next k2); clear H2)
        | (go_at_call 20; refine (H3.out _).mono ?_; rintro e w2 ⟨rfl, k2⟩; replace KC := Lib.hid (KC.out.next k2); clear H3))
      go_ret
      exact ⟨rfl, KC.out⟩

end Go.Proofs.Ythhplmgpgnajbaa
