/-
  The document's Common.
-/
import Derived.Test.YthhplmgpgnajbaaBoughLow
import Derived.Test.YthhplmgpgnajbaaBoughRefs
import Derived.Deep.RegionWith
namespace Go.Proofs.Ythhplmgpgnajbaa
open Go.RowKit Go.Lib

/-! ## The document's Common -/
theorem Bo.scan (n b x : Int) (h : Bo.Holds n x b = false) (hx : 0 ≤ Bo.Above n x) : ((x :: Bo.ups n x).find? (fun z => Bo.Holds n z b)) = ((Bo.Above n x :: Bo.ups n (Bo.Above n x)).find? (fun z => Bo.Holds n z b)) := by
  rw [List.find?_cons, h, Bo.ups, Bo.chain_step (by omega)]
  rfl

set_option maxRecDepth 100000 in
set_option maxHeartbeats 1600000 in
theorem rcommon_yes (n a b : Nat) (ha : a < n) (hb : b < n) (h64 : n ≤ 64) (w : World) : Calls Try.prog 28 #[.int .i64 (n : Int), .int .i64 (a : Int), .int .i64 (b : Int)] w fun e W' => e = .returned (.int .i64 (Bo.Common n a b)) ∧ W' = w := by
  have hE : Bo.Common n a b = (((2 * (a : Int)) :: Bo.ups n (2 * a)).find? (fun z => Bo.Holds n z b)).getD (-1) := by
    have h1 := Bo.holds_own (b := b) ha h64
    rw [Int.natCast_mul] at h1
    rw [Bo.Common, if_pos (Bo.leaf_of ha h64), List.find?_cons, show Bo.Holds (n : Int) (2 * (a : Int)) (b : Int) = decide (a = b) from h1]
    by_cases hab : a = b
    · rw [if_pos (by omega)]
      simp [hab]
    · rw [if_neg (by omega), Bo.lowest]
      simp [hab]
  obtain ⟨R, hR⟩ : ∃ R, R = Bo.Common n a b := ⟨_, rfl⟩
  have hT := fun w => rthere_calls (n : Int) 0 w
  rw [show Bo.there (n : Int) 0 = true by simp [Bo.there]; omega] at hT
  rw [← hR] at hE ⊢
  have g1 : ¬ (a : Int) < 0 := by omega
  have g2 : ¬ (b : Int) < 0 := by omega
  have g3 : ¬ (a : Int) ≥ (n : Int) := by omega
  have g4 : ¬ (b : Int) ≥ (n : Int) := by omega
  have g5 : (a : Int) ≤ 64 := by omega
  have HT := Lib.hid hT
  have HE := Lib.hid hE
  have HIN := Lib.hid (show Bo.In 0 n (2 * a) from ⟨by omega, by omega, by omega⟩)
  have HA := Lib.hid (fun y w => rabove_calls (n : Int) y w)
  have HH := Lib.hid (fun y w => rholds_calls (n : Int) y (b : Int) w)
  have HRH := Lib.hid (fun (x : Nat) (h : Bo.In 0 n x) (ht : Bo.Above n x < 0) => Bo.root_holds h h64 hb ht)
  have HTH := Lib.hid (fun (x : Nat) (h : Bo.In 0 n x) => Bo.there_of h h64)
  clear hT hE hR ha hb
  go_enter Try.func28, Try.ntmps28
  go_wp2_with (go_at_call 36; refine (HT.out _).mono ?_; rintro e w1 ⟨rfl, hw1⟩; subst w1)
  go_loopw [7] (fun s7 wr => ∃ x : Nat, s7 = .int .i64 (x : Int) ∧ Hid (Bo.In 0 n x) ∧ Hid (R = (((x : Int) :: Bo.ups n x).find? (fun z => Bo.Holds n z b)).getD (-1)) ∧ wr = w) (fun s7 _ => Bo.far n (RowKit.intOf s7))
  case atStart => exact ⟨2 * a, by simp, HIN, Lib.hid (by rw [HE.out]; simp), rfl⟩
  case round =>
    obtain ⟨x, rfl, hin, hr, hw⟩ := hrel
    subst wr
    have hc := fun w => HH.out (x : Int) w
    obtain ⟨q, hq⟩ : ∃ q, q = Bo.Holds n x b := ⟨_, rfl⟩
    simp only [← hq] at hc
    have HQ := Lib.hid hq
    have HC := Lib.hid hc
    clear hc hq
    cases q
    · obtain ⟨y, hy⟩ : ∃ y, y = Bo.Above n x := ⟨_, rfl⟩
      have hy0 : 0 ≤ y := by
        rcases Int.lt_or_le y 0 with h | h
        · have := HRH.out x hin.out (by rw [← hy]; exact h)
          rw [← HQ.out] at this
          cases this
        · exact h
      have hfar := Lib.hid (Bo.far_less (n : Int) (x : Int) (by omega))
      have hscan := Lib.hid (Bo.scan n b x HQ.out.symm (by rw [← hy]; exact hy0))
      have hyin : ∃ y' : Nat, y = (y' : Int) ∧ Bo.In 0 n y' := by
        obtain ⟨a', m', p', b', h1, h2, h3, h4, h5⟩ := Bo.seg_of hin.out h64
        obtain ⟨e1, _, _, _⟩ := Bo.say hin.out h64 h3
        rw [e1] at hy
        subst hy
        cases h1 with
        | top => omega
        | left hs _ => exact ⟨_, rfl, hs.inn hin.out.1⟩
        | right hs _ => exact ⟨_, rfl, hs.inn hin.out.1⟩
      obtain ⟨y', rfl, hyi⟩ := hyin
      have hA := fun w => HA.out (x : Int) w
      simp only [← hy] at hA
      have HAA := Lib.hid hA
      have HY := Lib.hid hy
      have HYI := Lib.hid hyi
      clear hA hy hyi hy0
      go_wp2_with (first
        | (go_at_call 32; refine (HC.out _).mono ?_; rintro e w1 ⟨rfl, hw1⟩; subst w1)
        | (go_at_call 21; refine (HAA.out _).mono ?_; rintro e w1 ⟨rfl, hw1⟩; subst w1))
      go_roundw
      case rel => exact ⟨y', rfl, HYI, Lib.hid (by rw [hr.out, hscan.out, ← HY.out]), trivial⟩
      case measure =>
        have := hfar.out
        rw [← HY.out] at this
        exact this
    · go_wp2_with (go_at_call 32; refine (HC.out _).mono ?_; rintro e w1 ⟨rfl, hw1⟩; subst w1)
      go_ret
      refine ⟨?_, rfl⟩
      rw [hr.out, List.find?_cons, ← HQ.out]
      rfl

end Go.Proofs.Ythhplmgpgnajbaa
