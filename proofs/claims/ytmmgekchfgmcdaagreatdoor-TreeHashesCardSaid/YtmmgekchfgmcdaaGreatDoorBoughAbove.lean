/-
  The node above: what Above answers.
-/
import Derived.Test.YtmmgekchfgmcdaaGreatDoorBoughFind

namespace Go.Proofs.YtmmgekchfgmcdaaGreatDoor
open Go.RowKit Go.Lib

theorem Bo.there_nat {n x : Int} (h : Bo.there n x = true) : ∃ n' x' : Nat, n = (n' : Int) ∧ x = (x' : Int) ∧ Bo.In 0 n' x' ∧ n' ≤ 64 := by
  simp [Bo.there] at h
  exact ⟨n.toNat, x.toNat, by omega, by omega, ⟨by omega, by omega, by omega⟩, by omega⟩
theorem Bo.Above_of {n x : Nat} (h : Bo.In 0 n x) (h64 : n ≤ 64) : Bo.Above (n : Int) (x : Int) = (Bo.part n x).2.2.1 := by
  rw [Bo.Above, if_pos (Bo.there_of h h64), Int.toNat_natCast, Int.toNat_natCast]

set_option maxRecDepth 100000 in
theorem above_no (n x : Int) (h : Bo.there n x = false) (w : World) : Calls Tryz.prog 115 #[.int .i64 n, .int .i64 x] w fun e w' => e = .returned (.int .i64 (Bo.Above n x)) ∧ Kept w.heap.size w.heap.size w w' := by
  have hn := fun w => isnode_calls n x w
  rw [h] at hn
  have HN := Lib.hid hn
  have HE := Lib.hid (show Bo.Above n x = -1 by rw [Bo.Above, h]; rfl)
  clear hn h
  go_enter Tryz.func115, Tryz.ntmps115
  go_wp2_with (go_at_call 130; refine (HN.out _).mono ?_; rintro e w1 ⟨rfl, hw1⟩; subst w1)
  go_ret
  exact ⟨by rw [HE.out]; rfl, Kept.refl _ _ _⟩

set_option maxRecDepth 100000 in
set_option maxHeartbeats 1600000 in
theorem above_yes (HL : LenIs) (n x : Nat) (h : Bo.In 0 n x) (h64 : n ≤ 64) (w : World) : Calls Tryz.prog 115 #[.int .i64 (n : Int), .int .i64 (x : Int)] w fun e w' => e = .returned (.int .i64 (Bo.part n x).2.2.1) ∧ Kept w.heap.size w.heap.size w w' := by
  have hn := fun w => isnode_calls (n : Int) (x : Int) w
  rw [Bo.there_of h h64] at hn
  have hW := fun w => whole_calls (n : Int) w
  have HN := Lib.hid hn
  have HW := Lib.hid hW
  have H0 := Lib.hid (OnWay.start h h64)
  have HL' := Lib.hid HL
  clear hn hW h HL
  go_enter Tryz.func115, Tryz.ntmps115
  go_wp2_with (first
    | (go_at_call 130; refine (HN.out _).mono ?_; rintro e w1 ⟨rfl, hw1⟩; subst w1)
    | (go_at_call 99; refine (HW.out _).mono ?_; rintro e w2 ⟨rfl, k2⟩; have K2 := Lib.hid k2))
  have hS : w.heap.size ≤ w2.heap.size := k2.size
  have hk3 : Kept w.heap.size w.heap.size w (w2.alloc (.cells #[.int .i64 0, .int .i64 (n : Int)] 112)) := K2.out.alloc hS _
  have hn3 := heap_new w2 (.cells #[.int .i64 0, .int .i64 (n : Int)] 112)
  generalize w2.alloc (.cells #[.int .i64 0, .int .i64 (n : Int)] 112) = w3 at hk3 hn3 ⊢
  generalize w2.heap.size = B0 at hS hn3 ⊢
  have HK3 := Lib.hid hk3
  have HN3 := Lib.hid hn3
  have HS3 := Lib.hid hS
  clear hk3 hn3 k2 K2 HW HN hS
  go_loopw [5, 6] (fun s5 s6 wr => ∃ (a m B : Nat) (p : Int), s5 = .int .i64 p ∧ s6 = .pointer (some ⟨B, 0, none⟩) ∧ Hid (w.heap.size ≤ B) ∧ Hid (OnWay n x a m p) ∧ Hid (wr.heap[B]? = some (.cells #[.int .i64 (a : Int), .int .i64 (m : Int)] 112 (0, 0))) ∧ Hid (Kept w.heap.size w.heap.size w wr)) (fun _ s6 wr => leavesAt s6 wr)
  case atStart => exact ⟨0, n, B0, -1, rfl, rfl, HS3, H0, HN3, HK3⟩
  case round =>
    obtain ⟨a, m, B, p, rfl, rfl, hB, hway, hrow, hk⟩ := hrel
    obtain ⟨hm1, ham⟩ := hway.out.root
    have c0 := two_cell0 hrow.out
    have c1 := two_cell1 hrow.out
    have hroot := fun w => root_calls HL'.out a m hm1 ham w
    rcases Nat.lt_trichotomy (Bo.root a m) x with hr | hr | hr
    · obtain ⟨h2, _, hmm, hnext⟩ := hway.out.right hr
      have htow := fun w => toward_right HL'.out a m x h2 ham (by omega) w
      have hne : ((Bo.root a m : Int) != (x : Int)) = true := by simp; omega
      obtain ⟨y, hy⟩ : ∃ y : Int, y = ((a + Bo.half m : Nat) : Int) := ⟨_, rfl⟩
      obtain ⟨z, hz⟩ : ∃ z : Int, z = ((m - Bo.half m : Nat) : Int) := ⟨_, rfl⟩
      have htow : ∀ w, Calls Tryz.prog 131 #[.agg #[.int .i64 (a : Int), .int .i64 (m : Int)], .int .i64 (x : Int)] w fun e w' => e = .returned (.agg #[.int .i64 y, .int .i64 z]) ∧ Kept w.heap.size w.heap.size w w' := fun w => by rw [hy, hz]; exact htow w
      have HY := Lib.hid hy
      have HZ := Lib.hid hz
      have HM := Lib.hid hmm
      have HX := Lib.hid hnext
      generalize hrr : Bo.root a m = r at hroot hne
      have HRR := Lib.hid hrr
      have HR := Lib.hid hroot
      have HR2 := Lib.hid hroot
      have HT := Lib.hid htow
      clear hroot htow hmm hnext hr hm1 ham h2 hrr hy hz
      go_wp2_with (first
        | (go_at_call 90; refine (HR.out _).mono ?_; rintro e w4 ⟨rfl, k4⟩; have hrow4 := (k4.block _ (lt_of_block hrow.out) (Nat.ne_of_lt (lt_of_block hrow.out))).trans hrow.out; have e0 := two_cell0 hrow4; have e1 := two_cell1 hrow4; clear HR)
        | (go_at_call 90; refine (HR2.out _).mono ?_; rintro e w5 ⟨rfl, k5⟩; have hrow5 := (k5.block _ (lt_of_block hrow4) (Nat.ne_of_lt (lt_of_block hrow4))).trans hrow4; have f0 := two_cell0 hrow5; have f1 := two_cell1 hrow5; have hnew := heap_new w5 (.cells #[.int .i64 (a : Int), .int .i64 (m : Int)] 112); clear HR2)
        | (go_at_call 131; refine (HT.out _).mono ?_; rintro e w6 ⟨rfl, k6⟩; have hrow6 := (k6.block _ (lt_of_block hnew) (Nat.ne_of_lt (lt_of_block hnew))).trans hnew; have g0 := two_cell0 hrow6; have g1 := two_cell1 hrow6; have gf := two_free hrow6; clear HT))
      go_roundw
      case rel =>
        refine ⟨a + Bo.half m, m - Bo.half m, _, _, rfl, rfl, ?_, by rw [← HRR.out]; exact HX, ?_, ?_⟩
        · exact Lib.hid (Nat.le_trans hk.out.size (Nat.le_trans k4.size k5.size))
        · rw [← HY.out, ← HZ.out]
          exact Lib.hid (two_set1 (two_set0 hrow6))
        · have s4 := hk.out.size
          have s5 := Nat.le_trans s4 k4.size
          have s6 := Nat.le_trans s5 k5.size
          have q4 := hk.out.trans (k4.mono s4 (fun i hi _ => Nat.ne_of_lt (Nat.lt_of_lt_of_le hi s4)))
          have q5 := (q4.trans (k5.mono s5 (fun i hi _ => Nat.ne_of_lt (Nat.lt_of_lt_of_le hi s5)))).alloc s6 (.cells #[.int .i64 (a : Int), .int .i64 (m : Int)] 112)
          have q6 := q5.trans (k6.mono q5.size (fun i hi _ => Nat.ne_of_lt (Nat.lt_of_lt_of_le hi q5.size)))
          exact Lib.hid ((q6.setCell (p := ⟨w5.heap.size, 0, none⟩) (.inr s6) _).setCell (p := ⟨w5.heap.size, 1, none⟩) (.inr s6) _)
      case measure =>
        rw [HZ.out, leavesAt_of (two_set1 (two_set0 hrow6)), leavesAt_of hrow.out]
        exact HM.out
    · have hroot' : ∀ w, Calls Tryz.prog 90 #[.agg #[.int .i64 (a : Int), .int .i64 (m : Int)]] w fun e w' => e = .returned (.int .i64 (x : Int)) ∧ Kept w.heap.size w.heap.size w w' := fun w => by rw [← hr]; exact hroot w
      have hdone := hway.out.done hr
      have hne : ((x : Int) != (x : Int)) = false := by simp
      have HR := Lib.hid hroot'
      have HD := Lib.hid hdone
      clear hroot hroot' hdone hr hm1 ham
      go_wp2_with (go_at_call 90; refine (HR.out _).mono ?_; rintro e w4 ⟨rfl, k4⟩; clear HR)
      go_ret
      refine ⟨?_, hk.out.trans (k4.mono hk.out.size (fun i hi _ => Nat.ne_of_lt (Nat.lt_of_lt_of_le hi hk.out.size)))⟩
      rw [HD.out.2.2]
      rfl
    · obtain ⟨h2, _, hmm, hnext⟩ := hway.out.left hr
      have htow := fun w => toward_left HL'.out a m x h2 ham (by omega) w
      have hne : ((Bo.root a m : Int) != (x : Int)) = true := by simp; omega
      obtain ⟨y, hy⟩ : ∃ y : Int, y = (a : Int) := ⟨_, rfl⟩
      obtain ⟨z, hz⟩ : ∃ z : Int, z = (Bo.half m : Int) := ⟨_, rfl⟩
      have htow : ∀ w, Calls Tryz.prog 131 #[.agg #[.int .i64 (a : Int), .int .i64 (m : Int)], .int .i64 (x : Int)] w fun e w' => e = .returned (.agg #[.int .i64 y, .int .i64 z]) ∧ Kept w.heap.size w.heap.size w w' := fun w => by rw [hy, hz]; exact htow w
      have HY := Lib.hid hy
      have HZ := Lib.hid hz
      have HM := Lib.hid hmm
      have HX := Lib.hid hnext
      generalize hrr : Bo.root a m = r at hroot hne
      have HRR := Lib.hid hrr
      have HR := Lib.hid hroot
      have HR2 := Lib.hid hroot
      have HT := Lib.hid htow
      clear hroot htow hmm hnext hr hm1 ham h2 hrr hy hz
      go_wp2_with (first
        | (go_at_call 90; refine (HR.out _).mono ?_; rintro e w4 ⟨rfl, k4⟩; have hrow4 := (k4.block _ (lt_of_block hrow.out) (Nat.ne_of_lt (lt_of_block hrow.out))).trans hrow.out; have e0 := two_cell0 hrow4; have e1 := two_cell1 hrow4; clear HR)
        | (go_at_call 90; refine (HR2.out _).mono ?_; rintro e w5 ⟨rfl, k5⟩; have hrow5 := (k5.block _ (lt_of_block hrow4) (Nat.ne_of_lt (lt_of_block hrow4))).trans hrow4; have f0 := two_cell0 hrow5; have f1 := two_cell1 hrow5; have hnew := heap_new w5 (.cells #[.int .i64 (a : Int), .int .i64 (m : Int)] 112); clear HR2)
        | (go_at_call 131; refine (HT.out _).mono ?_; rintro e w6 ⟨rfl, k6⟩; have hrow6 := (k6.block _ (lt_of_block hnew) (Nat.ne_of_lt (lt_of_block hnew))).trans hnew; have g0 := two_cell0 hrow6; have g1 := two_cell1 hrow6; have gf := two_free hrow6; clear HT))
      go_roundw
      case rel =>
        refine ⟨a, Bo.half m, _, _, rfl, rfl, ?_, by rw [← HRR.out]; exact HX, ?_, ?_⟩
        · exact Lib.hid (Nat.le_trans hk.out.size (Nat.le_trans k4.size k5.size))
        · rw [← HY.out, ← HZ.out]
          exact Lib.hid (two_set1 (two_set0 hrow6))
        · have s4 := hk.out.size
          have s5 := Nat.le_trans s4 k4.size
          have s6 := Nat.le_trans s5 k5.size
          have q4 := hk.out.trans (k4.mono s4 (fun i hi _ => Nat.ne_of_lt (Nat.lt_of_lt_of_le hi s4)))
          have q5 := (q4.trans (k5.mono s5 (fun i hi _ => Nat.ne_of_lt (Nat.lt_of_lt_of_le hi s5)))).alloc s6 (.cells #[.int .i64 (a : Int), .int .i64 (m : Int)] 112)
          have q6 := q5.trans (k6.mono q5.size (fun i hi _ => Nat.ne_of_lt (Nat.lt_of_lt_of_le hi q5.size)))
          exact Lib.hid ((q6.setCell (p := ⟨w5.heap.size, 0, none⟩) (.inr s6) _).setCell (p := ⟨w5.heap.size, 1, none⟩) (.inr s6) _)
      case measure =>
        rw [HZ.out, leavesAt_of (two_set1 (two_set0 hrow6)), leavesAt_of hrow.out]
        exact HM.out

theorem above_calls (HL : LenIs) (n x : Int) (w : World) : Calls Tryz.prog 115 #[.int .i64 n, .int .i64 x] w fun e w' => e = .returned (.int .i64 (Bo.Above n x)) ∧ Kept w.heap.size w.heap.size w w' := by
  by_cases h : Bo.there n x = true
  · obtain ⟨n, x, rfl, rfl, h1, h2⟩ := Bo.there_nat h
    rw [Bo.Above_of h1 h2]
    exact above_yes HL n x h1 h2 w
  · exact above_no n x (by simpa using h) w

end Go.Proofs.YtmmgekchfgmcdaaGreatDoor
