/-
  The way down to a node: what find and Above answer.
-/
import Derived.Test.YtmmgekchfgmcdaaGreatDoorBoughSides
import Derived.LoopTactic

namespace Go.Proofs.YtmmgekchfgmcdaaGreatDoor
open Go.RowKit Go.Lib

/-- How many leaves the side has that a pointer leads to. -/
def leavesAt (v : Value) (w : World) : Nat := match v with
  | .pointer (some a) => match w.cell? ⟨a.block, 1, none⟩ with
    | some (.int _ z) => z.toNat
    | _ => 0
  | _ => 0
theorem leavesAt_of {w : World} {b : Nat} {x : Value} {m : Nat} {t : TypeId} (h : w.heap[b]? = some (.cells #[x, .int .i64 (m : Int)] t (0, 0))) : leavesAt (.pointer (some ⟨b, 0, none⟩)) w = m := by
  simp [leavesAt, two_cell1 h]

theorem Bo.there_of {n x : Nat} (h : Bo.In 0 n x) (h64 : n ≤ 64) : Bo.there (n : Int) (x : Int) = true := by
  obtain ⟨h1, _, h3⟩ := h
  simp [Bo.there]
  omega

/-- Where the way down to x has come. -/
def OnWay (n x : Nat) (a m : Nat) (above : Int) : Prop := ∃ (b : Int) (k : Nat), m ≤ k ∧ Bo.In a m x ∧ a + m ≤ 64 ∧ Bo.down k a m x above b = Bo.part n x
theorem OnWay.start {n x : Nat} (h : Bo.In 0 n x) (h64 : n ≤ 64) : OnWay n x 0 n (-1) := ⟨-1, 64, h64, h, by omega, rfl⟩
theorem OnWay.done {n x a m : Nat} {p : Int} (h : OnWay n x a m p) (hr : Bo.root a m = x) : (Bo.part n x).1 = a ∧ (Bo.part n x).2.1 = m ∧ (Bo.part n x).2.2.1 = p := by
  obtain ⟨b, k, h1, h2, _, h4⟩ := h
  rw [Bo.down_root (Nat.le_trans h2.1 h1) hr] at h4
  rw [← h4]
  exact ⟨rfl, rfl, rfl⟩
theorem OnWay.left {n x a m : Nat} {p : Int} (h : OnWay n x a m p) (hr : x < Bo.root a m) : 2 ≤ m ∧ a + m ≤ 64 ∧ Bo.half m < m ∧ OnWay n x a (Bo.half m) (Bo.root a m) := by
  obtain ⟨b, k, h1, h2, h3, h4⟩ := h
  have h5 := Bo.two_of h2 (by omega)
  have h6 := Bo.half_lt h5
  rw [Bo.down_left (Nat.le_trans h2.1 h1) hr] at h4
  exact ⟨h5, h3, h6, _, k - 1, by omega, Bo.in_left h2 hr h5, by omega, h4⟩
theorem OnWay.right {n x a m : Nat} {p : Int} (h : OnWay n x a m p) (hr : Bo.root a m < x) : 2 ≤ m ∧ a + m ≤ 64 ∧ m - Bo.half m < m ∧ OnWay n x (a + Bo.half m) (m - Bo.half m) (Bo.root a m) := by
  obtain ⟨b, k, h1, h2, h3, h4⟩ := h
  have h5 := Bo.two_of h2 (by omega)
  have h6 := Bo.half_lt h5
  have h7 := Bo.half_pos m
  rw [Bo.down_right (Nat.le_trans h2.1 h1) hr] at h4
  exact ⟨h5, h3, by omega, _, k - 1, by omega, Bo.in_right h2 hr h5, by omega, h4⟩
theorem OnWay.root {n x a m : Nat} {p : Int} (h : OnWay n x a m p) : 1 ≤ m ∧ a + m ≤ 64 := ⟨h.choose_spec.choose_spec.2.1.1, h.choose_spec.choose_spec.2.2.1⟩

set_option maxRecDepth 100000 in
set_option maxHeartbeats 1600000 in
theorem find_calls (HL : LenIs) (n x : Nat) (h : Bo.In 0 n x) (h64 : n ≤ 64) (w : World) : Calls Tryz.prog 88 #[.int .i64 (n : Int), .int .i64 (x : Int)] w fun e w' => e = .returned (.tuple #[.agg #[.int .i64 ((Bo.part n x).1 : Int), .int .i64 ((Bo.part n x).2.1 : Int)], .bool true]) ∧ Kept w.heap.size w.heap.size w w' := by
  have hn := fun w => isnode_calls (n : Int) (x : Int) w
  rw [Bo.there_of h h64] at hn
  have hW := fun w => whole_calls (n : Int) w
  have HN := Lib.hid hn
  have HW := Lib.hid hW
  have H0 := Lib.hid (OnWay.start h h64)
  have hk0 : Kept w.heap.size w.heap.size w (w.alloc (.cells #[.int .i64 0, .int .i64 0] 112)) := (Kept.refl _ _ _).alloc (Nat.le_refl _) _
  have hP := heap_new w (.cells #[.int .i64 0, .int .i64 0] 112)
  have HK := Lib.hid hk0
  have HP := Lib.hid hP
  have HL' := Lib.hid HL
  clear hn hW hk0 hP h HL
  go_enter Tryz.func88, Tryz.ntmps88
  go_wp2_with (first
    | (go_at_call 130; refine (HN.out _).mono ?_; rintro e w2 ⟨rfl, rfl⟩)
    | (go_at_call 99; refine (HW.out _).mono ?_; rintro e w2 ⟨rfl, k2⟩; have K2 := Lib.hid k2))
  have hS : w.heap.size < w2.heap.size := by have := k2.size; simp at this; omega
  have hk3 : Kept w.heap.size w.heap.size w (w2.alloc (.cells #[.int .i64 0, .int .i64 (n : Int)] 112)) := (HK.out.trans (K2.out.mono (by simp) (fun i hi _ => by simp; omega))).alloc (Nat.le_of_lt hS) _
  have hr3 : (w2.alloc (.cells #[.int .i64 0, .int .i64 (n : Int)] 112)).heap[w.heap.size]? = some (.cells #[.int .i64 0, .int .i64 0] 112 (0, 0)) :=
    (Below.heap_alloc _ _ _ hS).trans ((K2.out.block _ (by simp) (by simp)).trans HP.out)
  have hn3 := heap_new w2 (.cells #[.int .i64 0, .int .i64 (n : Int)] 112)
  generalize w2.alloc (.cells #[.int .i64 0, .int .i64 (n : Int)] 112) = w3 at hk3 hr3 hn3 ⊢
  generalize w2.heap.size = B0 at hS hn3 ⊢
  have HK3 := Lib.hid hk3
  have HR3 := Lib.hid hr3
  have HN3 := Lib.hid hn3
  clear hk3 hr3 hn3 k2 K2 HP HK HW HN
  go_loopw [15] (fun _ wr => ∃ (a m : Nat) (p : Int), Hid (OnWay n x a m p) ∧ Hid (wr.heap[B0]? = some (.cells #[.int .i64 (a : Int), .int .i64 (m : Int)] 112 (0, 0))) ∧ Hid (wr.heap[w.heap.size]? = some (.cells #[.int .i64 0, .int .i64 0] 112 (0, 0))) ∧ Hid (Kept w.heap.size w.heap.size w wr)) (fun _ wr => leavesAt (.pointer (some ⟨B0, 0, none⟩)) wr)
  case atStart => exact ⟨0, n, -1, H0, HN3, HR3, HK3⟩
  case round =>
    obtain ⟨a, m, p, hway, hrow, hres, hk⟩ := hrel
    obtain ⟨hm1, ham⟩ := hway.out.root
    have c0 := two_cell0 hrow.out
    have c1 := two_cell1 hrow.out
    have hroot := fun w => root_calls HL'.out a m hm1 ham w
    rcases Nat.lt_trichotomy (Bo.root a m) x with hr | hr | hr
    · obtain ⟨h2, _, hmm, hnext⟩ := hway.out.right hr
      have htow := fun w => toward_right HL'.out a m x h2 ham (by omega) w
      have hne : ((Bo.root a m : Int) != (x : Int)) = true := by simp; omega
      have hy : ∃ y : Int, y = ((a + Bo.half m : Nat) : Int) := ⟨_, rfl⟩
      have hz : ∃ z : Int, z = ((m - Bo.half m : Nat) : Int) := ⟨_, rfl⟩
      obtain ⟨y, hy⟩ := hy
      obtain ⟨z, hz⟩ := hz
      rw [← hy, ← hz] at htow
      have HY := Lib.hid hy
      have HZ := Lib.hid hz
      have HM := Lib.hid hmm
      have HX := Lib.hid hnext
      generalize hrr : Bo.root a m = r at hroot hne
      have HR := Lib.hid hroot
      have HT := Lib.hid htow
      clear hroot htow hmm hnext hr hm1 ham h2 hrr hy hz
      go_wp2_with (first
        | (go_at_call 90; refine (HR.out _).mono ?_; rintro e w4 ⟨rfl, k4⟩; have hrow4 := (k4.block _ (lt_of_block hrow.out) (Nat.ne_of_lt (lt_of_block hrow.out))).trans hrow.out; have hres4 := (k4.block _ (lt_of_block hres.out) (Nat.ne_of_lt (lt_of_block hres.out))).trans hres.out; have e0 := two_cell0 hrow4; have e1 := two_cell1 hrow4; clear HR)
        | (go_at_call 131; refine (HT.out _).mono ?_; rintro e w5 ⟨rfl, k5⟩; have hrow5 := (k5.block _ (lt_of_block hrow4) (Nat.ne_of_lt (lt_of_block hrow4))).trans hrow4; have hres5 := (k5.block _ (lt_of_block hres4) (Nat.ne_of_lt (lt_of_block hres4))).trans hres4; have g0 := two_cell0 hrow5; have g1 := two_cell1 hrow5; have gf := two_free hrow5; clear HT))
      go_roundw
      case rel =>
        refine ⟨a + Bo.half m, m - Bo.half m, Bo.root a m, HX, ?_, ?_, ?_⟩
        · rw [← HY.out, ← HZ.out]
          exact Lib.hid (two_set1 (two_set0 hrow5))
        · exact Lib.hid ((Below.heap_setCell _ _ _ _ (Nat.ne_of_lt hS)).trans ((Below.heap_setCell _ _ _ _ (Nat.ne_of_lt hS)).trans hres5))
        · exact Lib.hid (((hk.out.trans (k4.mono hk.out.size (fun i hi _ => Nat.ne_of_lt (Nat.lt_of_lt_of_le hi hk.out.size)))).trans (k5.mono (Nat.le_trans hk.out.size k4.size) (fun i hi _ => Nat.ne_of_lt (Nat.lt_of_lt_of_le hi (Nat.le_trans hk.out.size k4.size))))).setCell (p := ⟨B0, 0, none⟩) (.inr (Nat.le_of_lt hS)) _ |>.setCell (p := ⟨B0, 1, none⟩) (.inr (Nat.le_of_lt hS)) _)
      case measure =>
        rw [HZ.out, leavesAt_of (two_set1 (two_set0 hrow5)), leavesAt_of hrow.out]
        exact HM.out
    · have hroot' : ∀ w, Calls Tryz.prog 90 #[.agg #[.int .i64 (a : Int), .int .i64 (m : Int)]] w fun e w' => e = .returned (.int .i64 (x : Int)) ∧ Kept w.heap.size w.heap.size w w' := fun w => by rw [← hr]; exact hroot w
      have hdone := hway.out.done hr
      have hne : ((x : Int) != (x : Int)) = false := by simp
      have HR := Lib.hid hroot'
      have HD := Lib.hid hdone
      clear hroot hroot' hdone hr hm1 ham
      go_wp2_with (go_at_call 90; refine (HR.out _).mono ?_; rintro e w4 ⟨rfl, k4⟩; have hrow4 := (k4.block _ (lt_of_block hrow.out) (Nat.ne_of_lt (lt_of_block hrow.out))).trans hrow.out; have hres4 := (k4.block _ (lt_of_block hres.out) (Nat.ne_of_lt (lt_of_block hres.out))).trans hres.out; have e0 := two_cell0 hrow4; have e1 := two_cell1 hrow4; have g0 := two_cell0 hres4; have g1 := two_cell1 hres4; have gf := two_free hres4; clear HR)
      have K4 := hk.out.trans (k4.mono hk.out.size (fun i hi _ => Nat.ne_of_lt (Nat.lt_of_lt_of_le hi hk.out.size)))
      obtain ⟨t1, t2⟩ := two_put K4 (Nat.le_refl _) hres4 (.int .i64 (a : Int)) (.int .i64 (m : Int))
      refine bodyPost_ret (side_loaded rfl _ _ w.heap.size _ _ _ rfl rfl t2) rfl ?_
      refine ⟨?_, t1⟩
      rw [HD.out.1, HD.out.2.1]
      rfl
    · obtain ⟨h2, _, hmm, hnext⟩ := hway.out.left hr
      have htow := fun w => toward_left HL'.out a m x h2 ham (by omega) w
      have hne : ((Bo.root a m : Int) != (x : Int)) = true := by simp; omega
      have hy : ∃ y : Int, y = (a : Int) := ⟨_, rfl⟩
      have hz : ∃ z : Int, z = (Bo.half m : Int) := ⟨_, rfl⟩
      obtain ⟨y, hy⟩ := hy
      obtain ⟨z, hz⟩ := hz
      have htow : ∀ w, Calls Tryz.prog 131 #[.agg #[.int .i64 (a : Int), .int .i64 (m : Int)], .int .i64 (x : Int)] w fun e w' => e = .returned (.agg #[.int .i64 y, .int .i64 z]) ∧ Kept w.heap.size w.heap.size w w' := fun w => by rw [hy, hz]; exact htow w
      have HY := Lib.hid hy
      have HZ := Lib.hid hz
      have HM := Lib.hid hmm
      have HX := Lib.hid hnext
      generalize hrr : Bo.root a m = r at hroot hne
      have HR := Lib.hid hroot
      have HT := Lib.hid htow
      clear hroot htow hmm hnext hr hm1 ham h2 hrr hy hz
      go_wp2_with (first
        | (go_at_call 90; refine (HR.out _).mono ?_; rintro e w4 ⟨rfl, k4⟩; have hrow4 := (k4.block _ (lt_of_block hrow.out) (Nat.ne_of_lt (lt_of_block hrow.out))).trans hrow.out; have hres4 := (k4.block _ (lt_of_block hres.out) (Nat.ne_of_lt (lt_of_block hres.out))).trans hres.out; have e0 := two_cell0 hrow4; have e1 := two_cell1 hrow4; clear HR)
        | (go_at_call 131; refine (HT.out _).mono ?_; rintro e w5 ⟨rfl, k5⟩; have hrow5 := (k5.block _ (lt_of_block hrow4) (Nat.ne_of_lt (lt_of_block hrow4))).trans hrow4; have hres5 := (k5.block _ (lt_of_block hres4) (Nat.ne_of_lt (lt_of_block hres4))).trans hres4; have g0 := two_cell0 hrow5; have g1 := two_cell1 hrow5; have gf := two_free hrow5; clear HT))
      go_roundw
      case rel =>
        refine ⟨a, Bo.half m, Bo.root a m, HX, ?_, ?_, ?_⟩
        · rw [← HY.out, ← HZ.out]
          exact Lib.hid (two_set1 (two_set0 hrow5))
        · exact Lib.hid ((Below.heap_setCell _ _ _ _ (Nat.ne_of_lt hS)).trans ((Below.heap_setCell _ _ _ _ (Nat.ne_of_lt hS)).trans hres5))
        · exact Lib.hid (((hk.out.trans (k4.mono hk.out.size (fun i hi _ => Nat.ne_of_lt (Nat.lt_of_lt_of_le hi hk.out.size)))).trans (k5.mono (Nat.le_trans hk.out.size k4.size) (fun i hi _ => Nat.ne_of_lt (Nat.lt_of_lt_of_le hi (Nat.le_trans hk.out.size k4.size))))).setCell (p := ⟨B0, 0, none⟩) (.inr (Nat.le_of_lt hS)) _ |>.setCell (p := ⟨B0, 1, none⟩) (.inr (Nat.le_of_lt hS)) _)
      case measure =>
        rw [HZ.out, leavesAt_of (two_set1 (two_set0 hrow5)), leavesAt_of hrow.out]
        exact HM.out

end Go.Proofs.YtmmgekchfgmcdaaGreatDoor
