/-
  The two sides of a side, and the one that a node stands in.
-/
import Derived.Test.YtmmgekchfgmcdaaGreatDoorBoughSide
import Derived.Deep.Cut
import Derived.Laws.ResultCell

namespace Go.Proofs.YtmmgekchfgmcdaaGreatDoor
open Go.RowKit Go.Lib

theorem sideInfo : (Tryz.prog.info? 112).map (·.size) = some 2 := by kernel_rfl
theorem side_results {fn : Func} {p : Tmp} (h : fn.results = #[.cell p 112]) (tmps : Array Value) (w : World) (g : Nat) (x y : Value) (hp : tmps.getD p undef = .pointer (some ⟨g, 0, none⟩)) (hg : w.heap[g]? = some (.cells #[x, y] 112 (0, 0))) : (results fn tmps).run Tryz.prog w = .ok (.agg #[x, y]) w :=
  results_cell_row h tmps w g _ _ _ _ hp hg Tryz.underlying112 rfl (by rw [sideInfo]; rfl)
theorem side_loaded {fn : Func} {p q : Tmp} (h : fn.results = #[.cell p 112, .tmp q]) (tmps : Array Value) (w : World) (g : Nat) (x y v : Value) (hp : tmps.getD p undef = .pointer (some ⟨g, 0, none⟩)) (hv : tmps.getD q undef = v) (hg : w.heap[g]? = some (.cells #[x, y] 112 (0, 0))) : (results fn tmps).run Tryz.prog w = .ok (.tuple #[.agg #[x, y], v]) w := by
  rw [results_cell_tmp h, hp, hv]
  simp [asAddr, run_loadVar_row w g _ _ _ _ _ hg Tryz.underlying112 rfl (by rw [sideInfo]; rfl)]

/-- Two blocks, the one behind the other: the first as it is given, the other of noughts. -/
theorem two_new (w : World) (x y : Value) (t : TypeId) : Kept w.heap.size w.heap.size w ((w.alloc (.cells #[x, y] t)).alloc (.cells #[.int .i64 0, .int .i64 0] t)) ∧ ((w.alloc (.cells #[x, y] t)).alloc (.cells #[.int .i64 0, .int .i64 0] t)).heap[w.heap.size]? = some (.cells #[x, y] t (0, 0)) ∧ ((w.alloc (.cells #[x, y] t)).alloc (.cells #[.int .i64 0, .int .i64 0] t)).heap[w.heap.size + 1]? = some (.cells #[.int .i64 0, .int .i64 0] t (0, 0)) := by
  refine ⟨((Kept.refl _ _ _).alloc (Nat.le_refl _) _).alloc (by simp) _, (Below.heap_alloc _ _ _ (by simp)).trans (heap_new _ _), ?_⟩
  have := heap_new (w.alloc (.cells #[x, y] t)) (.cells #[.int .i64 0, .int .i64 0] t)
  rw [World.size_alloc] at this
  exact this

/-- What lies behind both stores. -/
theorem two_put {w w2 : World} {b : Nat} {t : TypeId} (h : Kept w.heap.size w.heap.size w w2) (hb : w.heap.size ≤ b) (hr : w2.heap[b]? = some (.cells #[.int .i64 0, .int .i64 0] t (0, 0))) (x y : Value) : Kept w.heap.size w.heap.size w ((w2.setCell ⟨b, 0, none⟩ x).setCell ⟨b, 1, none⟩ y) ∧ ((w2.setCell ⟨b, 0, none⟩ x).setCell ⟨b, 1, none⟩ y).heap[b]? = some (.cells #[x, y] t (0, 0)) :=
  ⟨(h.setCell (p := ⟨b, 0, none⟩) (.inr hb) _).setCell (p := ⟨b, 1, none⟩) (.inr hb) _, two_set1 (two_set0 hr)⟩

set_option maxRecDepth 100000 in
set_option maxHeartbeats 1600000 in
theorem right_calls (HL : LenIs) (a m : Nat) (h2 : 2 ≤ m) (h64 : a + m ≤ 64) (w : World) : Calls Tryz.prog 91 #[.agg #[.int .i64 (a : Int), .int .i64 (m : Int)]] w fun e w' => e = .returned (.agg #[.int .i64 ((a + Bo.half m : Nat) : Int), .int .i64 ((m - Bo.half m : Nat) : Int)]) ∧ Kept w.heap.size w.heap.size w w' := by
  have hh := Bo.half_lt h2
  have hp := Bo.half_pos m
  have hcall := fun w => half_calls HL a m h2 (by omega) w
  generalize Bo.half m = h at hh hp hcall ⊢
  have e1 : ((m - h : Nat) : Int) = (m : Int) - (h : Int) := by omega
  have e2 : ((a + h : Nat) : Int) = (a : Int) + (h : Int) := by omega
  rw [e1, e2]
  have hwa : (a : Int) + (h : Int) ≤ 64 := by omega
  have hwb : 0 ≤ (m : Int) - (h : Int) := by omega
  have hm64 : (m : Int) ≤ 64 := by omega
  have HC := Lib.hid hcall
  clear hcall hh hp e1 e2
  obtain ⟨hk0, hP, hQ⟩ := two_new w (.int .i64 (a : Int)) (.int .i64 (m : Int)) 112
  have HK := Lib.hid hk0
  clear hk0
  go_enter Tryz.func91, Tryz.ntmps91
  go_wp2_with (go_at_call 132; refine (HC.out _).mono ?_; rintro e w2 ⟨rfl, k2⟩; have hP2 := (k2.block _ (lt_of_block hP) (Nat.ne_of_lt (lt_of_block hP))).trans hP; have hQ2 := (k2.block _ (lt_of_block hQ) (Nat.ne_of_lt (lt_of_block hQ))).trans hQ; have c0 := two_cell0 hP2; have c1 := two_cell1 hP2; have d0 := two_cell0 hQ2; have d1 := two_cell1 hQ2; have f0 := two_free hQ2)
  have K2 : Kept w.heap.size w.heap.size w w2 := HK.out.trans (k2.mono (by simp; omega) (fun i hi _ => by simp; omega))
  obtain ⟨t1, t2⟩ := two_put K2 (Nat.le_succ _) hQ2 (.int .i64 ((a : Int) + (h : Int))) (.int .i64 ((m : Int) - (h : Int)))
  refine bodyPost_ret (side_results rfl _ _ (w.heap.size + 1) _ _ rfl t2) rfl ?_
  exact ⟨rfl, t1⟩

set_option maxRecDepth 100000 in
set_option maxHeartbeats 1600000 in
theorem left_calls (HL : LenIs) (a m : Nat) (h2 : 2 ≤ m) (h64 : a + m ≤ 64) (w : World) : Calls Tryz.prog 89 #[.agg #[.int .i64 (a : Int), .int .i64 (m : Int)]] w fun e w' => e = .returned (.agg #[.int .i64 (a : Int), .int .i64 (Bo.half m : Int)]) ∧ Kept w.heap.size w.heap.size w w' := by
  have hcall := fun w => half_calls HL a m h2 (by omega) w
  generalize Bo.half m = h at hcall ⊢
  have HC := Lib.hid hcall
  clear hcall
  obtain ⟨hk0, hP, hQ⟩ := two_new w (.int .i64 (a : Int)) (.int .i64 (m : Int)) 112
  have HK := Lib.hid hk0
  clear hk0
  go_enter Tryz.func89, Tryz.ntmps89
  go_upto_region 1 with fail
  generalize (w.alloc (.cells #[.int .i64 (a : Int), .int .i64 (m : Int)] 112)).alloc (.cells #[.int .i64 0, .int .i64 0] 112) = w1 at HK hP hQ ⊢
  have hS1 := lt_of_block hQ
  obtain ⟨wa, hwa'⟩ : ∃ wa, wa = w.heap.size := ⟨_, rfl⟩
  have HWA := Lib.hid hwa'
  rw [← hwa'] at hP hQ HK hS1 ⊢
  have hS0 := lt_of_block hP
  clear hwa'
  have c0 := two_cell0 hP
  have c1 := two_cell1 hP
  have HF : Hid (∀ w', Kept w1.heap.size w1.heap.size w1 w' → w'.heap[wa]? = some (.cells #[.int .i64 (a : Int), .int .i64 (m : Int)] 112 (0, 0)) ∧ w'.heap[wa + 1]? = some (.cells #[.int .i64 0, .int .i64 0] 112 (0, 0))) := Lib.hid (fun w' k => ⟨(k.block wa hS0 (Nat.ne_of_lt hS0)).trans hP, (k.block (wa + 1) hS1 (Nat.ne_of_lt hS1)).trans hQ⟩)
  have HKK : Hid (∀ w', Kept w1.heap.size w1.heap.size w1 w' → Kept wa wa w w') := Lib.hid (fun w' k => HK.out.trans (k.mono (Nat.le_of_lt hS0) (fun i hi _ => by omega)))
  clear hP hQ
  go_region_with (go_at_call 132; refine (HC.out _).mono ?_; rintro e w2 ⟨rfl, k2⟩; have K2 := HKK.out _ (Kept.ofDrew k2); have hP2 := (HF.out _ (Kept.ofDrew k2)).1; have hQ2 := (HF.out _ (Kept.ofDrew k2)).2; have c2 := two_cell0 hP2; have d0 := two_cell0 hQ2; have d1 := two_cell1 hQ2; have f0 := two_free hQ2)
  all_goals
    go_wp2_with fail
    rw [HWA.out] at hQ2 K2
    obtain ⟨t1, t2⟩ := two_put K2 (Nat.le_succ _) hQ2 (.int .i64 (a : Int)) (.int .i64 (h : Int))
    rw [← HWA.out] at t1 t2
    refine bodyPost_ret (side_results rfl _ _ (wa + 1) _ _ rfl t2) rfl ?_
    exact ⟨rfl, by rw [← HWA.out]; exact t1⟩

set_option maxRecDepth 100000 in
set_option maxHeartbeats 1600000 in
theorem whole_calls (n : Int) (w : World) : Calls Tryz.prog 99 #[.int .i64 n] w fun e w' => e = .returned (.agg #[.int .i64 0, .int .i64 n]) ∧ Kept w.heap.size w.heap.size w w' := by
  have hk0 : Kept w.heap.size w.heap.size w (w.alloc (.cells #[.int .i64 0, .int .i64 n] 112)) := (Kept.refl _ _ _).alloc (Nat.le_refl _) _
  have HK := Lib.hid hk0
  have hP := heap_new w (.cells #[.int .i64 0, .int .i64 n] 112)
  clear hk0
  go_enter Tryz.func99, Tryz.ntmps99
  go_wp2
  refine bodyPost_ret (side_results rfl _ _ w.heap.size _ _ rfl hP) rfl ?_
  exact ⟨rfl, HK.out⟩

set_option maxRecDepth 100000 in
set_option maxHeartbeats 1600000 in
/-- The side on which x stands. -/
theorem toward_left (HL : LenIs) (a m x : Nat) (h2 : 2 ≤ m) (h64 : a + m ≤ 64) (hx : x < Bo.root a m) (w : World) : Calls Tryz.prog 131 #[.agg #[.int .i64 (a : Int), .int .i64 (m : Int)], .int .i64 (x : Int)] w fun e w' => e = .returned (.agg #[.int .i64 (a : Int), .int .i64 (Bo.half m : Int)]) ∧ Kept w.heap.size w.heap.size w w' := by
  have hroot := fun w => root_calls HL a m (by omega) h64 w
  have hleft := fun w => left_calls HL a m h2 h64 w
  have hlt : ((x : Int) < (Bo.root a m : Int)) := by omega
  generalize Bo.half m = h at hleft ⊢
  generalize Bo.root a m = r at hroot hlt
  have HR := Lib.hid hroot
  have HC := Lib.hid hleft
  clear hroot hleft hx
  obtain ⟨hk0, hP, hQ⟩ := two_new w (.int .i64 (a : Int)) (.int .i64 (m : Int)) 112
  have HK := Lib.hid hk0
  clear hk0
  go_enter Tryz.func131, Tryz.ntmps131
  go_wp2_with (first
    | (go_at_call 90; refine (HR.out _).mono ?_; rintro e w2 ⟨rfl, k2⟩; have hP2 := (k2.block _ (lt_of_block hP) (Nat.ne_of_lt (lt_of_block hP))).trans hP; have hQ2 := (k2.block _ (lt_of_block hQ) (Nat.ne_of_lt (lt_of_block hQ))).trans hQ; have K2 : Kept w.heap.size w.heap.size w w2 := HK.out.trans (k2.mono (by simp; omega) (fun i hi _ => by simp; omega)); have c0 := two_cell0 hP2; have c1 := two_cell1 hP2)
    | (go_at_call 89; refine (HC.out _).mono ?_; rintro e w3 ⟨rfl, k3⟩; have hQ3 := (k3.block _ (lt_of_block hQ2) (Nat.ne_of_lt (lt_of_block hQ2))).trans hQ2; have K3 := K2.trans (k3.mono K2.size (fun i hi _ => Nat.ne_of_lt (Nat.lt_of_lt_of_le hi K2.size))); have d0 := two_cell0 hQ3; have d1 := two_cell1 hQ3; have f0 := two_free hQ3))
  obtain ⟨t1, t2⟩ := two_put K3 (Nat.le_succ _) hQ3 (.int .i64 (a : Int)) (.int .i64 (h : Int))
  refine bodyPost_ret (side_results rfl _ _ (w.heap.size + 1) _ _ rfl t2) rfl ?_
  exact ⟨rfl, t1⟩

set_option maxRecDepth 100000 in
set_option maxHeartbeats 1600000 in
theorem toward_right (HL : LenIs) (a m x : Nat) (h2 : 2 ≤ m) (h64 : a + m ≤ 64) (hx : ¬ x < Bo.root a m) (w : World) : Calls Tryz.prog 131 #[.agg #[.int .i64 (a : Int), .int .i64 (m : Int)], .int .i64 (x : Int)] w fun e w' => e = .returned (.agg #[.int .i64 ((a + Bo.half m : Nat) : Int), .int .i64 ((m - Bo.half m : Nat) : Int)]) ∧ Kept w.heap.size w.heap.size w w' := by
  have hroot := fun w => root_calls HL a m (by omega) h64 w
  have hright := fun w => right_calls HL a m h2 h64 w
  have hlt : ¬ ((x : Int) < (Bo.root a m : Int)) := by omega
  generalize ((a + Bo.half m : Nat) : Int) = y at hright ⊢
  generalize ((m - Bo.half m : Nat) : Int) = z at hright ⊢
  generalize Bo.root a m = r at hroot hlt
  have HR := Lib.hid hroot
  have HC := Lib.hid hright
  clear hroot hright hx
  obtain ⟨hk0, hP, hQ⟩ := two_new w (.int .i64 (a : Int)) (.int .i64 (m : Int)) 112
  have HK := Lib.hid hk0
  clear hk0
  go_enter Tryz.func131, Tryz.ntmps131
  go_wp2_with (first
    | (go_at_call 90; refine (HR.out _).mono ?_; rintro e w2 ⟨rfl, k2⟩; have hP2 := (k2.block _ (lt_of_block hP) (Nat.ne_of_lt (lt_of_block hP))).trans hP; have hQ2 := (k2.block _ (lt_of_block hQ) (Nat.ne_of_lt (lt_of_block hQ))).trans hQ; have K2 : Kept w.heap.size w.heap.size w w2 := HK.out.trans (k2.mono (by simp; omega) (fun i hi _ => by simp; omega)); have c0 := two_cell0 hP2; have c1 := two_cell1 hP2)
    | (go_at_call 91; refine (HC.out _).mono ?_; rintro e w3 ⟨rfl, k3⟩; have hQ3 := (k3.block _ (lt_of_block hQ2) (Nat.ne_of_lt (lt_of_block hQ2))).trans hQ2; have K3 := K2.trans (k3.mono K2.size (fun i hi _ => Nat.ne_of_lt (Nat.lt_of_lt_of_le hi K2.size))); have d0 := two_cell0 hQ3; have d1 := two_cell1 hQ3; have f0 := two_free hQ3))
  obtain ⟨t1, t2⟩ := two_put K3 (Nat.le_succ _) hQ3 (.int .i64 y) (.int .i64 z)
  refine bodyPost_ret (side_results rfl _ _ (w.heap.size + 1) _ _ rfl t2) rfl ?_
  exact ⟨rfl, t1⟩

/-! ## What is a tree, a node, a leaf -/
set_option maxRecDepth 100000 in
theorem istree_calls (n : Int) (w : World) : Calls Tryz.prog 98 #[.int .i64 n] w fun e w' => e = .returned (.bool (decide (1 ≤ n) && decide (n ≤ 64))) ∧ w' = w := by
  by_cases h1 : 1 ≤ n
  · go_enter Tryz.func98, Tryz.ntmps98
    go_wp2
    go_ret
    exact ⟨by simp [h1], rfl⟩
  · have h2 : ¬ n ≥ 1 := h1
    go_enter Tryz.func98, Tryz.ntmps98
    go_wp2
    go_ret
    exact ⟨by simp; omega, rfl⟩

set_option maxRecDepth 100000 in
theorem isnode_calls (n x : Int) (w : World) : Calls Tryz.prog 130 #[.int .i64 n, .int .i64 x] w fun e w' => e = .returned (.bool (Bo.there n x)) ∧ w' = w := by
  have hcall := fun w => istree_calls n w
  by_cases h1 : 1 ≤ n ∧ n ≤ 64
  · obtain ⟨h1, h3⟩ := h1
    simp only [h1, h3, decide_true, Bool.and_self] at hcall
    have HC := Lib.hid hcall
    clear hcall
    by_cases h4 : 0 ≤ x
    · go_enter Tryz.func130, Tryz.ntmps130
      go_wp2_with (go_at_call 98; refine (HC.out _).mono ?_; rintro e w2 ⟨rfl, rfl⟩)
      go_ret
      exact ⟨by simp [Bo.there, h1, h3, h4], rfl⟩
    · have h5 : ¬ x ≥ 0 := h4
      go_enter Tryz.func130, Tryz.ntmps130
      go_wp2_with (go_at_call 98; refine (HC.out _).mono ?_; rintro e w2 ⟨rfl, rfl⟩)
      go_ret
      exact ⟨by simp [Bo.there]; omega, rfl⟩
  · have hb : (decide (1 ≤ n) && decide (n ≤ 64)) = false := by
      rw [← Bool.not_eq_true, Bool.and_eq_true, decide_eq_true_iff, decide_eq_true_iff]
      exact h1
    rw [hb] at hcall
    have HC := Lib.hid hcall
    have HB := Lib.hid hb
    clear hcall hb
    go_enter Tryz.func130, Tryz.ntmps130
    go_wp2_with (go_at_call 98; refine (HC.out _).mono ?_; rintro e w2 ⟨rfl, rfl⟩)
    go_ret
    exact ⟨by simp [Bo.there, HB.out], rfl⟩

set_option maxRecDepth 100000 in
theorem isleaf_calls (n x : Int) (w : World) : Calls Tryz.prog 111 #[.int .i64 n, .int .i64 x] w fun e w' => e = .returned (.bool (Bo.leaf n x)) ∧ w' = w := by
  have hcall := fun w => istree_calls n w
  by_cases h1 : 1 ≤ n ∧ n ≤ 64
  · obtain ⟨h1, h3⟩ := h1
    simp only [h1, h3, decide_true, Bool.and_self] at hcall
    have HC := Lib.hid hcall
    clear hcall
    by_cases h4 : 0 ≤ x
    · go_enter Tryz.func111, Tryz.ntmps111
      go_wp2_with (go_at_call 98; refine (HC.out _).mono ?_; rintro e w2 ⟨rfl, rfl⟩)
      go_ret
      exact ⟨by simp [Bo.leaf, h1, h3, h4], rfl⟩
    · have h5 : ¬ x ≥ 0 := h4
      go_enter Tryz.func111, Tryz.ntmps111
      go_wp2_with (go_at_call 98; refine (HC.out _).mono ?_; rintro e w2 ⟨rfl, rfl⟩)
      go_ret
      exact ⟨by simp [Bo.leaf]; omega, rfl⟩
  · have hb : (decide (1 ≤ n) && decide (n ≤ 64)) = false := by
      rw [← Bool.not_eq_true, Bool.and_eq_true, decide_eq_true_iff, decide_eq_true_iff]
      exact h1
    rw [hb] at hcall
    have HC := Lib.hid hcall
    have HB := Lib.hid hb
    clear hcall hb
    go_enter Tryz.func111, Tryz.ntmps111
    go_wp2_with (go_at_call 98; refine (HC.out _).mono ?_; rintro e w2 ⟨rfl, rfl⟩)
    go_ret
    exact ⟨by simp [Bo.leaf, HB.out], rfl⟩

end Go.Proofs.YtmmgekchfgmcdaaGreatDoor
