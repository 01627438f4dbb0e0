/-
  What the landed Root, Left, Right, Leaves, Holds answer.
-/
import Derived.Test.YtmmgekchfgmcdaaGreatDoorBoughAbove

namespace Go.Proofs.YtmmgekchfgmcdaaGreatDoor
open Go.RowKit Go.Lib

theorem Bo.part_in {n x : Nat} (h : Bo.In 0 n x) (h64 : n ≤ 64) : Bo.root (Bo.part n x).1 (Bo.part n x).2.1 = x ∧ 1 ≤ (Bo.part n x).2.1 ∧ (Bo.part n x).1 + (Bo.part n x).2.1 ≤ 64 := by
  obtain ⟨a, m, p, b, h1, h2, h3, h4, h5⟩ := Bo.down_end 64 0 n x (-1) (-1) h64 h
  rw [Bo.part, h1]
  exact ⟨h5, h2, by show a + m ≤ 64; omega⟩

set_option maxRecDepth 100000 in
theorem find_no (n x : Int) (h : Bo.there n x = false) (w : World) : Calls Tryz.prog 88 #[.int .i64 n, .int .i64 x] w fun e w' => e = .returned (.tuple #[.agg #[.int .i64 0, .int .i64 0], .bool false]) ∧ Kept w.heap.size w.heap.size w w' := by
  have hn := fun w => isnode_calls n x w
  rw [h] at hn
  have HN := Lib.hid hn
  have hk0 : Kept w.heap.size w.heap.size w (w.alloc (.cells #[.int .i64 0, .int .i64 0] 112)) := (Kept.refl _ _ _).alloc (Nat.le_refl _) _
  have hP := heap_new w (.cells #[.int .i64 0, .int .i64 0] 112)
  have c0 := two_cell0 hP
  have c1 := two_cell1 hP
  have cf := two_free hP
  have HK := Lib.hid hk0
  clear hn h hk0
  go_enter Tryz.func88, Tryz.ntmps88
  go_wp2_with (go_at_call 130; refine (HN.out _).mono ?_; rintro e w1 ⟨rfl, hw1⟩; subst w1)
  first
    | (refine bodyPost_ret (side_loaded rfl _ _ w.heap.size _ _ _ rfl rfl hP) rfl ?_; exact ⟨rfl, HK.out⟩)
    | (obtain ⟨t1, t2⟩ := two_put HK.out (Nat.le_refl _) hP (.int .i64 0) (.int .i64 0)
       refine bodyPost_ret (side_loaded rfl _ _ w.heap.size _ _ _ rfl rfl t2) rfl ?_
       exact ⟨rfl, t1⟩)

set_option maxRecDepth 100000 in
theorem rootof_calls (HL : LenIs) (n : Int) (w : World) : Calls Tryz.prog 56 #[.int .i64 n] w fun e w' => e = .returned (.int .i64 (Bo.Root n)) ∧ Kept w.heap.size w.heap.size w w' := by
  have hT := fun w => istree_calls n w
  by_cases h : Bo.there n 0 = true
  · have hE : Bo.Root n = Bo.root 0 n.toNat := by rw [Bo.Root, if_pos h]
    have hn : 1 ≤ n ∧ n ≤ 64 := by simp [Bo.there] at h; omega
    rw [show (decide (1 ≤ n) && decide (n ≤ 64)) = true by simp; exact hn] at hT
    obtain ⟨n, rfl⟩ : ∃ k : Nat, n = (k : Int) := ⟨n.toNat, by omega⟩
    rw [Int.toNat_natCast] at hE
    rw [hE]
    have hroot := fun w => root_calls HL 0 n (by omega) (by omega) w
    have hW := fun w => whole_calls (n : Int) w
    generalize Bo.root 0 n = r at hroot ⊢
    have HR := Lib.hid hroot
    have HW := Lib.hid hW
    have HT := Lib.hid hT
    clear hroot hW hT hE h hn
    go_enter Tryz.func56, Tryz.ntmps56
    go_wp2_with (first
      | (go_at_call 98; refine (HT.out _).mono ?_; rintro e w1 ⟨rfl, hw1⟩; subst w1)
      | (go_at_call 99; refine (HW.out _).mono ?_; rintro e w2 ⟨rfl, k2⟩; have K2 := Lib.hid k2)
      | (go_at_call 90; refine (HR.out _).mono ?_; rintro e w3 ⟨rfl, k3⟩; have K3 := Lib.hid k3))
    go_ret
    exact ⟨rfl, K2.out.trans (K3.out.mono K2.out.size (fun i hi _ => Nat.ne_of_lt (Nat.lt_of_lt_of_le hi K2.out.size)))⟩
  · have hE : Bo.Root n = -1 := by rw [Bo.Root, if_neg h]
    have hn : ¬ (1 ≤ n ∧ n ≤ 64) := by simp [Bo.there] at h; omega
    rw [show (decide (1 ≤ n) && decide (n ≤ 64)) = false by rw [← Bool.not_eq_true, Bool.and_eq_true, decide_eq_true_iff, decide_eq_true_iff]; exact hn] at hT
    rw [hE]
    have HT := Lib.hid hT
    clear hT hE h hn
    go_enter Tryz.func56, Tryz.ntmps56
    go_wp2_with (go_at_call 98; refine (HT.out _).mono ?_; rintro e w1 ⟨rfl, hw1⟩; subst w1)
    go_ret
    exact ⟨rfl, Kept.refl _ _ _⟩

set_option maxRecDepth 100000 in
set_option maxHeartbeats 1600000 in
theorem left_calls_of (HL : LenIs) (n x : Int) (w : World) : Calls Tryz.prog 52 #[.int .i64 n, .int .i64 x] w fun e w' => e = .returned (.int .i64 (Bo.Left n x)) ∧ Kept w.heap.size w.heap.size w w' := by
  by_cases h : Bo.there n x = true
  · have hE : Bo.Left n x = Bo.left n.toNat x.toNat := by rw [Bo.Left, if_pos h]
    obtain ⟨n, x, rfl, rfl, h1, h2⟩ := Bo.there_nat h
    rw [Int.toNat_natCast, Int.toNat_natCast] at hE
    rw [hE, Bo.left]
    obtain ⟨q1, q2, q3⟩ := Bo.part_in h1 h2
    have hfind := fun w => find_calls HL n x h1 h2 w
    generalize (Bo.part n x).1 = a at q1 q2 q3 hfind ⊢
    generalize (Bo.part n x).2.1 = m at q1 q2 q3 hfind ⊢
    clear hE h h1 h2 q1
    have HF := Lib.hid hfind
    clear hfind
    by_cases hm : m = 1
    · subst hm
      rw [if_pos rfl]
      go_enter Tryz.func52, Tryz.ntmps52
      go_wp2_with (go_at_call 88; refine (HF.out _).mono ?_; rintro e w2 ⟨rfl, k2⟩; have K2 := Lib.hid k2)
      go_ret
      exact ⟨rfl, K2.out.alloc K2.out.size _⟩
    · rw [if_neg hm]
      have hm2 : 2 ≤ m := by omega
      have hhl := Bo.half_lt hm2
      have hhp := Bo.half_pos m
      have hside := fun w => left_calls HL a m hm2 q3 w
      have hroot := fun w => root_calls HL a (Bo.half m) (by omega) (by omega) w
      have hne : ((m : Int) == 1) = false := by simp; omega
      generalize Bo.root a (Bo.half m) = r at hroot ⊢
      generalize Bo.half m = h at hside hroot
      
      have HS := Lib.hid hside
      have HR := Lib.hid hroot
      clear hside hroot hhl hhp hm hm2 q2 q3
      go_enter Tryz.func52, Tryz.ntmps52
      go_wp2_with (first
        | (go_at_call 88; refine (HF.out _).mono ?_; rintro e w2 ⟨rfl, k2⟩; have K2 := Lib.hid k2; have hrow := heap_new w2 (.cells #[.int .i64 (a : Int), .int .i64 (m : Int)] 112); have c0 := two_cell0 hrow; have c1 := two_cell1 hrow)
        | (go_at_call 89; refine (HS.out _).mono ?_; rintro e w3 ⟨rfl, k3⟩; have K3 := Lib.hid k3)
        | (go_at_call 90; refine (HR.out _).mono ?_; rintro e w4 ⟨rfl, k4⟩; have K4 := Lib.hid k4))
      go_ret
      refine ⟨rfl, ?_⟩
      have q2 := K2.out.alloc K2.out.size (.cells #[.int .i64 (a : Int), .int .i64 (m : Int)] 112)
      have q3 := q2.trans (K3.out.mono q2.size (fun i hi _ => Nat.ne_of_lt (Nat.lt_of_lt_of_le hi q2.size)))
      exact q3.trans (K4.out.mono q3.size (fun i hi _ => Nat.ne_of_lt (Nat.lt_of_lt_of_le hi q3.size)))
  · have hE : Bo.Left n x = -1 := by rw [Bo.Left, if_neg h]
    have hfind := fun w => find_no n x (by simpa using h) w
    rw [hE]
    have HF := Lib.hid hfind
    clear hfind hE h
    go_enter Tryz.func52, Tryz.ntmps52
    go_wp2_with (go_at_call 88; refine (HF.out _).mono ?_; rintro e w2 ⟨rfl, k2⟩; have K2 := Lib.hid k2)
    go_ret
    exact ⟨rfl, K2.out.alloc K2.out.size _⟩

set_option maxRecDepth 100000 in
set_option maxHeartbeats 1600000 in
theorem right_calls_of (HL : LenIs) (n x : Int) (w : World) : Calls Tryz.prog 53 #[.int .i64 n, .int .i64 x] w fun e w' => e = .returned (.int .i64 (Bo.Right n x)) ∧ Kept w.heap.size w.heap.size w w' := by
  by_cases h : Bo.there n x = true
  · have hE : Bo.Right n x = Bo.right n.toNat x.toNat := by rw [Bo.Right, if_pos h]
    obtain ⟨n, x, rfl, rfl, h1, h2⟩ := Bo.there_nat h
    rw [Int.toNat_natCast, Int.toNat_natCast] at hE
    rw [hE, Bo.right]
    obtain ⟨q1, q2, q3⟩ := Bo.part_in h1 h2
    have hfind := fun w => find_calls HL n x h1 h2 w
    generalize (Bo.part n x).1 = a at q1 q2 q3 hfind ⊢
    generalize (Bo.part n x).2.1 = m at q1 q2 q3 hfind ⊢
    clear hE h h1 h2 q1
    have HF := Lib.hid hfind
    clear hfind
    by_cases hm : m = 1
    · subst hm
      rw [if_pos rfl]
      go_enter Tryz.func53, Tryz.ntmps53
      go_wp2_with (go_at_call 88; refine (HF.out _).mono ?_; rintro e w2 ⟨rfl, k2⟩; have K2 := Lib.hid k2)
      go_ret
      exact ⟨rfl, K2.out.alloc K2.out.size _⟩
    · rw [if_neg hm]
      have hm2 : 2 ≤ m := by omega
      have hhl := Bo.half_lt hm2
      have hhp := Bo.half_pos m
      have hside := fun w => right_calls HL a m hm2 q3 w
      have hroot := fun w => root_calls HL (a + Bo.half m) (m - Bo.half m) (by omega) (by omega) w
      have hne : ((m : Int) == 1) = false := by simp; omega
      generalize Bo.root (a + Bo.half m) (m - Bo.half m) = r at hroot ⊢
      generalize ((a + Bo.half m : Nat) : Int) = y at hside hroot
      generalize ((m - Bo.half m : Nat) : Int) = z at hside hroot
      have HS := Lib.hid hside
      have HR := Lib.hid hroot
      clear hside hroot hhl hhp hm hm2 q2 q3
      go_enter Tryz.func53, Tryz.ntmps53
      go_wp2_with (first
        | (go_at_call 88; refine (HF.out _).mono ?_; rintro e w2 ⟨rfl, k2⟩; have K2 := Lib.hid k2; have hrow := heap_new w2 (.cells #[.int .i64 (a : Int), .int .i64 (m : Int)] 112); have c0 := two_cell0 hrow; have c1 := two_cell1 hrow)
        | (go_at_call 91; refine (HS.out _).mono ?_; rintro e w3 ⟨rfl, k3⟩; have K3 := Lib.hid k3)
        | (go_at_call 90; refine (HR.out _).mono ?_; rintro e w4 ⟨rfl, k4⟩; have K4 := Lib.hid k4))
      go_ret
      refine ⟨rfl, ?_⟩
      have q2 := K2.out.alloc K2.out.size (.cells #[.int .i64 (a : Int), .int .i64 (m : Int)] 112)
      have q3 := q2.trans (K3.out.mono q2.size (fun i hi _ => Nat.ne_of_lt (Nat.lt_of_lt_of_le hi q2.size)))
      exact q3.trans (K4.out.mono q3.size (fun i hi _ => Nat.ne_of_lt (Nat.lt_of_lt_of_le hi q3.size)))
  · have hE : Bo.Right n x = -1 := by rw [Bo.Right, if_neg h]
    have hfind := fun w => find_no n x (by simpa using h) w
    rw [hE]
    have HF := Lib.hid hfind
    clear hfind hE h
    go_enter Tryz.func53, Tryz.ntmps53
    go_wp2_with (go_at_call 88; refine (HF.out _).mono ?_; rintro e w2 ⟨rfl, k2⟩; have K2 := Lib.hid k2)
    go_ret
    exact ⟨rfl, K2.out.alloc K2.out.size _⟩

set_option maxRecDepth 100000 in
set_option maxHeartbeats 1600000 in
theorem leaves_calls (HL : LenIs) (n x : Int) (w : World) : Calls Tryz.prog 118 #[.int .i64 n, .int .i64 x] w fun e w' => e = .returned (.tuple #[.int .i64 (Bo.First n x), .int .i64 (Bo.Behind n x)]) ∧ Kept w.heap.size w.heap.size w w' := by
  by_cases h : Bo.there n x = true
  · have hE : Bo.First n x = (Bo.part n.toNat x.toNat).1 := by rw [Bo.First, if_pos h]
    have hB : Bo.Behind n x = ((Bo.part n.toNat x.toNat).1 + (Bo.part n.toNat x.toNat).2.1 : Nat) := by rw [Bo.Behind, if_pos h]
    obtain ⟨n, x, rfl, rfl, h1, h2⟩ := Bo.there_nat h
    rw [Int.toNat_natCast, Int.toNat_natCast] at hE hB
    rw [hE, hB]
    obtain ⟨q1, q2, q3⟩ := Bo.part_in h1 h2
    have hfind := fun w => find_calls HL n x h1 h2 w
    generalize (Bo.part n x).1 = a at q1 q2 q3 hfind ⊢
    generalize (Bo.part n x).2.1 = m at q1 q2 q3 hfind ⊢
    clear hE hB h h1 h2 q1
    have HF := Lib.hid hfind
    have hsum : (a : Int) + (m : Int) ≤ 64 := by omega
    clear hfind q2 q3
    go_enter Tryz.func118, Tryz.ntmps118
    go_wp2_with (go_at_call 88; refine (HF.out _).mono ?_; rintro e w2 ⟨rfl, k2⟩; have K2 := Lib.hid k2; have hrow := heap_new w2 (.cells #[.int .i64 (a : Int), .int .i64 (m : Int)] 112); have c0 := two_cell0 hrow; have c1 := two_cell1 hrow)
    go_region
    all_goals
      go_wp2_with fail
      go_ret2
      refine ⟨?_, (K2.out.alloc K2.out.size _).drew⟩
      rw [Int.natCast_add]
      rfl
  · have hE : Bo.First n x = 0 := by rw [Bo.First, if_neg h]
    have hB : Bo.Behind n x = 0 := by rw [Bo.Behind, if_neg h]
    have hfind := fun w => find_no n x (by simpa using h) w
    rw [hE, hB]
    have HF := Lib.hid hfind
    clear hfind hE hB h
    go_enter Tryz.func118, Tryz.ntmps118
    go_wp2_with (go_at_call 88; refine (HF.out _).mono ?_; rintro e w2 ⟨rfl, k2⟩; have K2 := Lib.hid k2)
    go_ret2
    exact ⟨rfl, K2.out.alloc K2.out.size _⟩

end Go.Proofs.YtmmgekchfgmcdaaGreatDoor
