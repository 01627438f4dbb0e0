/-
  The document's own answers: the way down, and what is told of a node.
-/
import Derived.Test.YtmmgekchfgmcdaaGreatDoorBoughRef
import Derived.Test.YtmmgekchfgmcdaaGreatDoorBoughSay

namespace Go.Proofs.YtmmgekchfgmcdaaGreatDoor
open Go.RowKit Go.Lib

theorem results_tmps4 {fn : Func} {t u v z : Tmp} (h : fn.results = #[.tmp t, .tmp u, .tmp v, .tmp z]) (tmps : Array Value) (P : Program) (w : World) :
    (results fn tmps).run P w = .ok (.tuple #[tmps.getD t undef, tmps.getD u undef, tmps.getD v undef, tmps.getD z undef]) w := by
  simp [results, h]

set_option maxRecDepth 100000 in
set_option maxHeartbeats 3200000 in
theorem rfind_calls : ∀ (k a m x : Nat) (p b : Int), m ≤ k → Bo.In a m x → a + m ≤ 64 → ∀ w : World, Calls Tryz.prog 109 #[.int .i64 (a : Int), .int .i64 (m : Int), .int .i64 (x : Int), .int .i64 p, .int .i64 b] w fun e w' => e = .returned (.tuple #[.int .i64 ((Bo.down k a m x p b).1 : Int), .int .i64 ((Bo.down k a m x p b).2.1 : Int), .int .i64 (Bo.down k a m x p b).2.2.1, .int .i64 (Bo.down k a m x p b).2.2.2]) ∧ w' = w := by
  intro k
  induction k with
  | zero => intro a m x p b h1 h2; have := h2.1; omega
  | succ k ih =>
    intro a m x p b h1 h2 h3 w
    have hroot := fun w => rroot_calls a m h2.1 h3 w
    rcases Nat.lt_trichotomy (Bo.root a m) x with hr | hr | hr
    · have h4 := Bo.two_of h2 (by omega)
      have h5 := Bo.half_lt h4
      have h6 := Bo.half_pos m
      have hhalf := fun w => rhalf_calls m h4 (by omega) w
      have hl := fun w => rroot_calls a (Bo.half m) h6 (by omega) w
      have hrr := fun w => rroot_calls (a + Bo.half m) (m - Bo.half m) (by omega) (by omega) w
      have hnext := fun w => ih (a + Bo.half m) (m - Bo.half m) x (Bo.root a m) (Bo.root a (Bo.half m)) (by omega) (Bo.in_right h2 hr h4) (by omega) w
      rw [show Bo.down (k + 1) a m x p b = Bo.down k (a + Bo.half m) (m - Bo.half m) x (Bo.root a m) (Bo.root a (Bo.half m)) from Bo.down_right (by omega) hr]
      generalize Bo.down k (a + Bo.half m) (m - Bo.half m) x (Bo.root a m) (Bo.root a (Bo.half m)) = D at hnext ⊢
      obtain ⟨D1, D2, D3, D4⟩ := D
      dsimp only at hnext ⊢
      have hne : ((Bo.root a m : Int) == (x : Int)) = false := by simp; omega
      have hlt : ¬ (x : Int) < (Bo.root a m : Int) := by omega
      have e1 : ((a + Bo.half m : Nat) : Int) = (a : Int) + (Bo.half m : Int) := by omega
      have e2 : ((m - Bo.half m : Nat) : Int) = (m : Int) - (Bo.half m : Int) := by omega
      rw [e1, e2] at hrr hnext
      generalize Bo.root (a + Bo.half m) (m - Bo.half m) = r2 at hrr
      generalize Bo.root a (Bo.half m) = r1 at hl hnext
      generalize Bo.root a m = r at hroot hnext hne hlt
      generalize Bo.half m = h at hhalf hl hrr hnext h5 h6
      have f1 : (a : Int) + (h : Int) ≤ 64 := by omega
      have f2 : 0 ≤ (m : Int) - (h : Int) := by omega
      have f3 : (m : Int) ≤ 64 := by omega
      have H1 := Lib.hid hroot
      have H2 := Lib.hid hhalf
      have H3 := Lib.hid hl
      have H4 := Lib.hid hrr
      have H5 := Lib.hid hnext
      clear hroot hhalf hl hrr hnext ih h1 h2 h3 h4 h5 h6 hr e1 e2
      go_enter Tryz.func109, Tryz.ntmps109
      go_wp2_with (first
        | (go_at_call 103; refine (H1.out _).mono ?_; rintro e w1 ⟨rfl, hw1⟩; subst w1; clear H1)
        | (go_at_call 110; refine (H2.out _).mono ?_; rintro e w1 ⟨rfl, hw1⟩; subst w1; clear H2)
        | (go_at_call 103; refine (H3.out _).mono ?_; rintro e w1 ⟨rfl, hw1⟩; subst w1; clear H3)
        | (go_at_call 103; refine (H4.out _).mono ?_; rintro e w1 ⟨rfl, hw1⟩; subst w1; clear H4)
        | (go_at_call 109; refine (H5.out _).mono ?_; rintro e w1 ⟨rfl, hw1⟩; subst w1; clear H5))
      refine bodyPost_ret (results_tmps4 rfl _ _ _) rfl ?_
      exact ⟨rfl, rfl⟩
    · rw [Bo.down_root (Nat.succ_le_succ (Nat.zero_le _)) hr]
      have hroot : ∀ w, Calls Tryz.prog 103 #[.int .i64 (a : Int), .int .i64 (m : Int)] w fun e w' => e = .returned (.int .i64 (x : Int)) ∧ w' = w := fun w => by rw [← hr]; exact hroot w
      have H1 := Lib.hid hroot
      clear hroot ih h1 h2 h3 hr
      go_enter Tryz.func109, Tryz.ntmps109
      go_wp2_with (go_at_call 103; refine (H1.out _).mono ?_; rintro e w1 ⟨rfl, hw1⟩; subst w1)
      refine bodyPost_ret (results_tmps4 rfl _ _ _) rfl ?_
      exact ⟨rfl, rfl⟩
    · have h4 := Bo.two_of h2 (by omega)
      have h5 := Bo.half_lt h4
      have h6 := Bo.half_pos m
      have hhalf := fun w => rhalf_calls m h4 (by omega) w
      have hl := fun w => rroot_calls a (Bo.half m) h6 (by omega) w
      have hrr := fun w => rroot_calls (a + Bo.half m) (m - Bo.half m) (by omega) (by omega) w
      have hnext := fun w => ih a (Bo.half m) x (Bo.root a m) (Bo.root (a + Bo.half m) (m - Bo.half m)) (by omega) (Bo.in_left h2 hr h4) (by omega) w
      rw [show Bo.down (k + 1) a m x p b = Bo.down k a (Bo.half m) x (Bo.root a m) (Bo.root (a + Bo.half m) (m - Bo.half m)) from Bo.down_left (by omega) hr]
      generalize Bo.down k a (Bo.half m) x (Bo.root a m) (Bo.root (a + Bo.half m) (m - Bo.half m)) = D at hnext ⊢
      obtain ⟨D1, D2, D3, D4⟩ := D
      dsimp only at hnext ⊢
      have hne : ((Bo.root a m : Int) == (x : Int)) = false := by simp; omega
      have hlt : (x : Int) < (Bo.root a m : Int) := by omega
      have e1 : ((a + Bo.half m : Nat) : Int) = (a : Int) + (Bo.half m : Int) := by omega
      have e2 : ((m - Bo.half m : Nat) : Int) = (m : Int) - (Bo.half m : Int) := by omega
      rw [e1, e2] at hrr
      generalize Bo.root (a + Bo.half m) (m - Bo.half m) = r2 at hrr hnext
      generalize Bo.root a (Bo.half m) = r1 at hl
      generalize Bo.root a m = r at hroot hnext hne hlt
      generalize Bo.half m = h at hhalf hl hrr hnext h5 h6
      have f1 : (a : Int) + (h : Int) ≤ 64 := by omega
      have f2 : 0 ≤ (m : Int) - (h : Int) := by omega
      have f3 : (m : Int) ≤ 64 := by omega
      have H1 := Lib.hid hroot
      have H2 := Lib.hid hhalf
      have H3 := Lib.hid hl
      have H4 := Lib.hid hrr
      have H5 := Lib.hid hnext
      clear hroot hhalf hl hrr hnext ih h1 h2 h3 h4 h5 h6 hr e1 e2
      go_enter Tryz.func109, Tryz.ntmps109
      go_wp2_with (first
        | (go_at_call 103; refine (H1.out _).mono ?_; rintro e w1 ⟨rfl, hw1⟩; subst w1; clear H1)
        | (go_at_call 110; refine (H2.out _).mono ?_; rintro e w1 ⟨rfl, hw1⟩; subst w1; clear H2)
        | (go_at_call 103; refine (H3.out _).mono ?_; rintro e w1 ⟨rfl, hw1⟩; subst w1; clear H3)
        | (go_at_call 103; refine (H4.out _).mono ?_; rintro e w1 ⟨rfl, hw1⟩; subst w1; clear H4)
        | (go_at_call 109; refine (H5.out _).mono ?_; rintro e w1 ⟨rfl, hw1⟩; subst w1; clear H5))
      refine bodyPost_ret (results_tmps4 rfl _ _ _) rfl ?_
      exact ⟨rfl, rfl⟩

theorem rpart_calls (n x : Nat) (h : Bo.In 0 n x) (h64 : n ≤ 64) (w : World) : Calls Tryz.prog 109 #[.int .i64 0, .int .i64 (n : Int), .int .i64 (x : Int), .int .i64 (-1), .int .i64 (-1)] w fun e w' => e = .returned (.tuple #[.int .i64 ((Bo.part n x).1 : Int), .int .i64 ((Bo.part n x).2.1 : Int), .int .i64 (Bo.part n x).2.2.1, .int .i64 (Bo.part n x).2.2.2]) ∧ w' = w :=
  rfind_calls 64 0 n x (-1) (-1) h64 h (by omega) w

set_option maxRecDepth 100000 in
theorem rrootof_calls (n : Int) (w : World) : Calls Tryz.prog 58 #[.int .i64 n] w fun e w' => e = .returned (.int .i64 (Bo.Root n)) ∧ w' = w := by
  by_cases h : Bo.there n 0 = true
  · have hT := fun w => rthere_calls n 0 w
    rw [h] at hT
    have hE : Bo.Root n = Bo.root 0 n.toNat := by rw [Bo.Root, if_pos h]
    have hn : 1 ≤ n ∧ n ≤ 64 := by simp [Bo.there] at h; omega
    obtain ⟨n, rfl⟩ : ∃ k : Nat, n = (k : Int) := ⟨n.toNat, by omega⟩
    rw [Int.toNat_natCast] at hE
    rw [hE]
    have hroot := fun w => rroot_calls 0 n (by omega) (by omega) w
    generalize Bo.root 0 n = r at hroot ⊢
    have H1 := Lib.hid hT
    have H2 := Lib.hid hroot
    clear hroot hT hE h hn
    go_enter Tryz.func58, Tryz.ntmps58
    go_wp2_with (first
      | (go_at_call 102; refine (H1.out _).mono ?_; rintro e w1 ⟨rfl, hw1⟩; subst w1)
      | (go_at_call 103; refine (H2.out _).mono ?_; rintro e w1 ⟨rfl, hw1⟩; subst w1))
    go_ret
    exact ⟨rfl, rfl⟩
  · have hT := fun w => rthere_calls n 0 w
    rw [show Bo.there n 0 = false by simpa using h] at hT
    have H1 := Lib.hid hT
    clear hT
    rw [Bo.Root, if_neg h]
    clear h
    go_enter Tryz.func58, Tryz.ntmps58
    go_wp2_with (go_at_call 102; refine (H1.out _).mono ?_; rintro e w1 ⟨rfl, hw1⟩; subst w1)
    go_ret
    exact ⟨rfl, rfl⟩

set_option maxRecDepth 100000 in
set_option maxHeartbeats 1600000 in
theorem rabove_calls (n x : Int) (w : World) : Calls Tryz.prog 116 #[.int .i64 n, .int .i64 x] w fun e w' => e = .returned (.int .i64 (Bo.Above n x)) ∧ w' = w := by
  by_cases h : Bo.there n x = true
  · have hT := fun w => rthere_calls n x w
    rw [h] at hT
    rw [Bo.Above, if_pos h]
    obtain ⟨n, x, rfl, rfl, h1, h2⟩ := Bo.there_nat h
    rw [Int.toNat_natCast, Int.toNat_natCast]
    have hfind := fun w => rpart_calls n x h1 h2 w
    obtain ⟨q1, q2, q3⟩ := Bo.part_in h1 h2
    have HT := Lib.hid hT
    clear hT
    generalize Bo.part n x = D at hfind ⊢
    obtain ⟨D1, D2, D3, D4⟩ := D
    dsimp only at hfind ⊢
    have HF := Lib.hid hfind
    clear hfind q1 q2 q3 h1 h2 h
    go_enter Tryz.func116, Tryz.ntmps116
    go_wp2_with (first
      | (go_at_call 102; refine (HT.out _).mono ?_; rintro e w1 ⟨rfl, hw1⟩; subst w1)
      | (go_at_call 109; refine (HF.out _).mono ?_; rintro e w1 ⟨rfl, hw1⟩; subst w1))
    go_ret
    exact ⟨rfl, rfl⟩
  · have hT := fun w => rthere_calls n x w
    rw [show Bo.there n x = false by simpa using h] at hT
    have H1 := Lib.hid hT
    clear hT
    rw [Bo.Above, if_neg h]
    clear h
    go_enter Tryz.func116, Tryz.ntmps116
    go_wp2_with (go_at_call 102; refine (H1.out _).mono ?_; rintro e w1 ⟨rfl, hw1⟩; subst w1)
    go_ret
    exact ⟨rfl, rfl⟩

set_option maxRecDepth 100000 in
set_option maxHeartbeats 1600000 in
theorem rbeside_calls (n x : Int) (w : World) : Calls Tryz.prog 117 #[.int .i64 n, .int .i64 x] w fun e w' => e = .returned (.int .i64 (Bo.Beside n x)) ∧ w' = w := by
  by_cases h : Bo.there n x = true
  · have hT := fun w => rthere_calls n x w
    rw [h] at hT
    rw [Bo.Beside, if_pos h]
    obtain ⟨n, x, rfl, rfl, h1, h2⟩ := Bo.there_nat h
    rw [Int.toNat_natCast, Int.toNat_natCast]
    have hfind := fun w => rpart_calls n x h1 h2 w
    obtain ⟨q1, q2, q3⟩ := Bo.part_in h1 h2
    have HT := Lib.hid hT
    clear hT
    generalize Bo.part n x = D at hfind ⊢
    obtain ⟨D1, D2, D3, D4⟩ := D
    dsimp only at hfind ⊢
    have HF := Lib.hid hfind
    clear hfind q1 q2 q3 h1 h2 h
    go_enter Tryz.func117, Tryz.ntmps117
    go_wp2_with (first
      | (go_at_call 102; refine (HT.out _).mono ?_; rintro e w1 ⟨rfl, hw1⟩; subst w1)
      | (go_at_call 109; refine (HF.out _).mono ?_; rintro e w1 ⟨rfl, hw1⟩; subst w1))
    go_ret
    exact ⟨rfl, rfl⟩
  · have hT := fun w => rthere_calls n x w
    rw [show Bo.there n x = false by simpa using h] at hT
    have H1 := Lib.hid hT
    clear hT
    rw [Bo.Beside, if_neg h]
    clear h
    go_enter Tryz.func117, Tryz.ntmps117
    go_wp2_with (go_at_call 102; refine (H1.out _).mono ?_; rintro e w1 ⟨rfl, hw1⟩; subst w1)
    go_ret
    exact ⟨rfl, rfl⟩

set_option maxRecDepth 100000 in
set_option maxHeartbeats 1600000 in
theorem rleaves_calls (n x : Int) (w : World) : Calls Tryz.prog 85 #[.int .i64 n, .int .i64 x] w fun e w' => e = .returned (.tuple #[.int .i64 (Bo.First n x), .int .i64 (Bo.Behind n x)]) ∧ w' = w := by
  by_cases h : Bo.there n x = true
  · have hT := fun w => rthere_calls n x w
    rw [h] at hT
    rw [Bo.First, if_pos h, Bo.Behind, if_pos h]
    obtain ⟨n, x, rfl, rfl, h1, h2⟩ := Bo.there_nat h
    rw [Int.toNat_natCast, Int.toNat_natCast]
    have hfind := fun w => rpart_calls n x h1 h2 w
    obtain ⟨q1, q2, q3⟩ := Bo.part_in h1 h2
    have HT := Lib.hid hT
    clear hT
    generalize Bo.part n x = D at hfind q2 q3 ⊢
    obtain ⟨a, m, D3, D4⟩ := D
    dsimp only at hfind q2 q3 ⊢
    have hsum : (a : Int) + (m : Int) ≤ 64 := by omega
    have HF := Lib.hid hfind
    clear hfind q1 q2 q3 h1 h2 h
    go_enter Tryz.func85, Tryz.ntmps85
    go_wp2_with (first
      | (go_at_call 102; refine (HT.out _).mono ?_; rintro e w1 ⟨rfl, hw1⟩; subst w1)
      | (go_at_call 109; refine (HF.out _).mono ?_; rintro e w1 ⟨rfl, hw1⟩; subst w1))
    go_ret2
    exact ⟨by rw [Int.natCast_add]; rfl, rfl⟩
  · have hT := fun w => rthere_calls n x w
    rw [show Bo.there n x = false by simpa using h] at hT
    have H1 := Lib.hid hT
    clear hT
    rw [Bo.First, if_neg h, Bo.Behind, if_neg h]
    clear h
    go_enter Tryz.func85, Tryz.ntmps85
    go_wp2_with (go_at_call 102; refine (H1.out _).mono ?_; rintro e w1 ⟨rfl, hw1⟩; subst w1)
    go_ret2
    exact ⟨rfl, rfl⟩

set_option maxRecDepth 100000 in
set_option maxHeartbeats 1600000 in
theorem rleft_calls (n x : Int) (w : World) : Calls Tryz.prog 67 #[.int .i64 n, .int .i64 x] w fun e w' => e = .returned (.int .i64 (Bo.Left n x)) ∧ w' = w := by
  by_cases h : Bo.there n x = true
  · have hT := fun w => rthere_calls n x w
    rw [h] at hT
    rw [Bo.Left, if_pos h]
    obtain ⟨n, x, rfl, rfl, h1, h2⟩ := Bo.there_nat h
    rw [Int.toNat_natCast, Int.toNat_natCast]
    have hfind := fun w => rpart_calls n x h1 h2 w
    obtain ⟨q1, q2, q3⟩ := Bo.part_in h1 h2
    have HT := Lib.hid hT
    clear hT
    rw [Bo.left]
    generalize Bo.part n x = D at hfind q2 q3 ⊢
    obtain ⟨a, m, D3, D4⟩ := D
    dsimp only at hfind q2 q3 ⊢
    have HF := Lib.hid hfind
    clear hfind q1 h1 h2 h
    by_cases hm : m = 1
    · subst hm
      rw [if_pos rfl]
      clear q2 q3
      go_enter Tryz.func67, Tryz.ntmps67
      go_wp2_with (first
        | (go_at_call 102; refine (HT.out _).mono ?_; rintro e w1 ⟨rfl, hw1⟩; subst w1)
        | (go_at_call 109; refine (HF.out _).mono ?_; rintro e w1 ⟨rfl, hw1⟩; subst w1))
      go_ret
      exact ⟨rfl, rfl⟩
    · rw [if_neg hm]
      have hm2 : 2 ≤ m := by omega
      have hhl := Bo.half_lt hm2
      have hhp := Bo.half_pos m
      have hhalf := fun w => rhalf_calls m hm2 (by omega) w
      have hroot := fun w => rroot_calls a (Bo.half m) (by omega) (by omega) w
      have hne : ((m : Int) == 1) = false := by simp; omega
      generalize Bo.root a (Bo.half m) = r at hroot ⊢
      generalize Bo.half m = h at hhalf hroot
      have H3 := Lib.hid hhalf
      have H4 := Lib.hid hroot
      clear hhalf hroot hhl hhp hm hm2 q2 q3
      go_enter Tryz.func67, Tryz.ntmps67
      go_wp2_with (first
        | (go_at_call 102; refine (HT.out _).mono ?_; rintro e w1 ⟨rfl, hw1⟩; subst w1)
        | (go_at_call 109; refine (HF.out _).mono ?_; rintro e w1 ⟨rfl, hw1⟩; subst w1)
        | (go_at_call 110; refine (H3.out _).mono ?_; rintro e w1 ⟨rfl, hw1⟩; subst w1)
        | (go_at_call 103; refine (H4.out _).mono ?_; rintro e w1 ⟨rfl, hw1⟩; subst w1))
      go_ret
      exact ⟨rfl, rfl⟩
  · have hT := fun w => rthere_calls n x w
    rw [show Bo.there n x = false by simpa using h] at hT
    have H1 := Lib.hid hT
    clear hT
    rw [Bo.Left, if_neg h]
    clear h
    go_enter Tryz.func67, Tryz.ntmps67
    go_wp2_with (go_at_call 102; refine (H1.out _).mono ?_; rintro e w1 ⟨rfl, hw1⟩; subst w1)
    go_ret
    exact ⟨rfl, rfl⟩

set_option maxRecDepth 100000 in
set_option maxHeartbeats 1600000 in
theorem rright_calls (n x : Int) (w : World) : Calls Tryz.prog 68 #[.int .i64 n, .int .i64 x] w fun e w' => e = .returned (.int .i64 (Bo.Right n x)) ∧ w' = w := by
  by_cases h : Bo.there n x = true
  · have hT := fun w => rthere_calls n x w
    rw [h] at hT
    rw [Bo.Right, if_pos h]
    obtain ⟨n, x, rfl, rfl, h1, h2⟩ := Bo.there_nat h
    rw [Int.toNat_natCast, Int.toNat_natCast]
    have hfind := fun w => rpart_calls n x h1 h2 w
    obtain ⟨q1, q2, q3⟩ := Bo.part_in h1 h2
    have HT := Lib.hid hT
    clear hT
    rw [Bo.right]
    generalize Bo.part n x = D at hfind q2 q3 ⊢
    obtain ⟨a, m, D3, D4⟩ := D
    dsimp only at hfind q2 q3 ⊢
    have HF := Lib.hid hfind
    clear hfind q1 h1 h2 h
    by_cases hm : m = 1
    · subst hm
      rw [if_pos rfl]
      clear q2 q3
      go_enter Tryz.func68, Tryz.ntmps68
      go_wp2_with (first
        | (go_at_call 102; refine (HT.out _).mono ?_; rintro e w1 ⟨rfl, hw1⟩; subst w1)
        | (go_at_call 109; refine (HF.out _).mono ?_; rintro e w1 ⟨rfl, hw1⟩; subst w1))
      go_ret
      exact ⟨rfl, rfl⟩
    · rw [if_neg hm]
      have hm2 : 2 ≤ m := by omega
      have hhl := Bo.half_lt hm2
      have hhp := Bo.half_pos m
      have hhalf := fun w => rhalf_calls m hm2 (by omega) w
      have hroot := fun w => rroot_calls (a + Bo.half m) (m - Bo.half m) (by omega) (by omega) w
      have hne : ((m : Int) == 1) = false := by simp; omega
      generalize Bo.root (a + Bo.half m) (m - Bo.half m) = r at hroot ⊢
      have e1 : ((a + Bo.half m : Nat) : Int) = (a : Int) + (Bo.half m : Int) := by omega
      have e2 : ((m - Bo.half m : Nat) : Int) = (m : Int) - (Bo.half m : Int) := by omega
      rw [e1, e2] at hroot
      have f1 : (a : Int) + (Bo.half m : Int) ≤ 64 := by omega
      have f2 : 0 ≤ (m : Int) - (Bo.half m : Int) := by omega
      have f3 : (m : Int) ≤ 64 := by omega
      clear e1 e2
      generalize Bo.half m = h at hhalf hroot f1 f2
      have H3 := Lib.hid hhalf
      have H4 := Lib.hid hroot
      clear hhalf hroot hhl hhp hm hm2 q2 q3
      go_enter Tryz.func68, Tryz.ntmps68
      go_wp2_with (first
        | (go_at_call 102; refine (HT.out _).mono ?_; rintro e w1 ⟨rfl, hw1⟩; subst w1)
        | (go_at_call 109; refine (HF.out _).mono ?_; rintro e w1 ⟨rfl, hw1⟩; subst w1)
        | (go_at_call 110; refine (H3.out _).mono ?_; rintro e w1 ⟨rfl, hw1⟩; subst w1)
        | (go_at_call 103; refine (H4.out _).mono ?_; rintro e w1 ⟨rfl, hw1⟩; subst w1))
      go_ret
      exact ⟨rfl, rfl⟩
  · have hT := fun w => rthere_calls n x w
    rw [show Bo.there n x = false by simpa using h] at hT
    have H1 := Lib.hid hT
    clear hT
    rw [Bo.Right, if_neg h]
    clear h
    go_enter Tryz.func68, Tryz.ntmps68
    go_wp2_with (go_at_call 102; refine (H1.out _).mono ?_; rintro e w1 ⟨rfl, hw1⟩; subst w1)
    go_ret
    exact ⟨rfl, rfl⟩

set_option maxRecDepth 100000 in
theorem rholds_calls (n x leaf : Int) (w : World) : Calls Tryz.prog 43 #[.int .i64 n, .int .i64 x, .int .i64 leaf] w fun e w' => e = .returned (.bool (Bo.Holds n x leaf)) ∧ w' = w := by
  have hL := fun w => rleaves_calls n x w
  rw [Bo.Holds]
  generalize Bo.First n x = a at hL ⊢
  generalize Bo.Behind n x = b at hL ⊢
  have HF := Lib.hid hL
  clear hL
  by_cases h : a ≤ leaf
  · have h2 : leaf ≥ a := h
    go_enter Tryz.func43, Tryz.ntmps43
    go_wp2_with (go_at_call 85; refine (HF.out _).mono ?_; rintro e w1 ⟨rfl, hw1⟩; subst w1)
    go_ret
    exact ⟨by simp; omega, rfl⟩
  · have h2 : ¬ leaf ≥ a := h
    go_enter Tryz.func43, Tryz.ntmps43
    go_wp2_with (go_at_call 85; refine (HF.out _).mono ?_; rintro e w1 ⟨rfl, hw1⟩; subst w1)
    go_ret
    exact ⟨by simp; omega, rfl⟩

end Go.Proofs.YtmmgekchfgmcdaaGreatDoor
