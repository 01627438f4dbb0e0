/-
  The document's own reader of a number: its walks, one for each head.
-/
import Derived.Test.YtdnnccnicaoniaaDoorWireRefRd

namespace Go.Proofs.YtdnnccnicaoniaaDoor
open Go.RowKit

/-- The number's bytes, one after another. -/
structure NumAcc (s : ByteArray) (F K : Nat) (A : Nat → Int) : Prop where
  one : A 1 = (F : Int) % 64
  step : ∀ j (h : j < s.size), 1 ≤ j → j < K → A (j + 1) = A j * 256 + ((s[j]'h).toNat : Int)
  bound : ∀ j, 1 ≤ j → j < K → 0 ≤ A j ∧ A j < 18014398509481984

/-- What the walk behind the bytes leaves. -/
def NumRd (w : World) (c : Nat) (s : ByteArray) (K m : Nat) (x : Int) (e : Ending) (w' : World) : Prop :=
  ∃ w2, Kept w.heap.size w.heap.size (w.setCell ⟨c, 0, none⟩ (.string (s.extract K s.size))) w2 ∧ ((x = 0 ∧ e = .returned (.int .i64 m) ∧ w2 = w') ∨ (x ≠ 0 ∧ e = .returned (.int .i64 0) ∧ w2.setCell ⟨c, 1, none⟩ (.int .i64 x) = w'))

set_option maxHeartbeats 3200000 in
set_option maxRecDepth 100000 in
theorem numrd_long0 (c : Nat) (s : ByteArray) (F : Nat) (most : Int) (w : World) (hb : w.heap[c]? = some (.cells #[.string s, .int .i64 0] 78 (0, 0))) (_hz : (s.size == 0) = false) (hz2 : 0 < s.size)
    (hF : Hid (wrap64 ((s[0]'hz2).toNat : Int) = (F : Int))) (hlo : 0 ≤ F) (hhi : F < 64) (_hs : ¬ s.size < 1) (_hs2 : 1 ≤ s.size) (A : Nat → Int) (hA : NumAcc s F 1 A) (m : Nat) (hm : Hid (A 1 = (m : Int))) (hm2 : Hid (m ≤ 4611686018427387903)) (x : Int)
    (B : List UInt8) (hB : Hid (s.extract 0 1 = str B)) (hx : Hid ((x = 3 ∧ (Wm.enc m == B) = false) ∨ (x = 5 ∧ (Wm.enc m == B) = true ∧ most < (m : Int)) ∨ (x = 0 ∧ (Wm.enc m == B) = true ∧ (m : Int) ≤ most))) :
    Calls Tryd.prog 35 #[.pointer (some ⟨c, 0, none⟩), .int .i64 most] w fun e w' => NumRd w c s 1 m x e w' := by
  have H1 := Lib.hid hA.one
  have H2 := Lib.hid hA.step
  have H3 := Lib.hid hA.bound
  clear hA
  obtain ⟨w1, hw1⟩ : ∃ w1, w1 = w.setCell ⟨c, 0, none⟩ (.string (s.extract 1 s.size)) := ⟨_, rfl⟩
  have Hw1 := Lib.hid hw1
  have c0 := two_cell0 hb
  have c1 := two_cell1 hb
  have f0 := two_free hb 0
  have f1 := two_free hb 1
  have d1 : w1.cell? ⟨c, 1, none⟩ = some (.int .i64 0) := by rw [hw1]; exact two_cell1 (two_set0 hb)
  have g1 : w1.frozen? ⟨c, 1, none⟩ = false := by rw [hw1]; exact two_free (two_set0 hb) 1
  have hs1 : w1.heap.size = w.heap.size := by rw [hw1]; simp [World.setCell]
  have hc1 : c < w1.heap.size := by rw [hs1]; exact (Array.getElem?_eq_some_iff.1 hb).1
  have Hs1 := Lib.hid hs1
  clear hw1 hb hs1
  go_enter Tryd.func35, Tryd.ntmps35
  go_wp2
  rw [hF.out]
  clear hF
  refine wp_loop_rounds 1 ?_; rw [rounds_succ]
  go_wp2
  have hFm : (F : Int) % 64 = (m : Int) := H1.out.symm.trans hm.out
  refine wp_loop_rounds 1 ?_; rw [rounds_succ]
  go_wp2_with fail
  rw [hFm]
  clear hFm
  rw [← Hw1.out, hB.out]
  refine (refnum m w1 hm2.out).mono ?_
  rintro e w2 ⟨rfl, k2⟩
  have d2 : w2.cell? ⟨c, 1, none⟩ = some (.int .i64 0) := (k2.cell (p := ⟨c, 1, none⟩) hc1 (by show c ≠ _; omega)).trans d1
  have g2 : w2.frozen? ⟨c, 1, none⟩ = false := (k2.frozen (p := ⟨c, 1, none⟩) hc1 (by show c ≠ _; omega)).trans g1
  clear d1 g1
  rw [Hs1.out, Hw1.out] at k2
  have hx9 := hx.out
  clear hx
  rcases hx9 with ⟨rfl, hne⟩ | ⟨rfl, hne, hmo⟩ | ⟨rfl, hne, hmo⟩
  · go_wp2
    go_ret
    exact ⟨w2, k2, .inr ⟨by decide, rfl, rfl⟩⟩
  · go_wp2
    go_ret
    exact ⟨w2, k2, .inr ⟨by decide, rfl, rfl⟩⟩
  · go_wp2
    go_ret
    exact ⟨w2, k2, .inl ⟨rfl, rfl, rfl⟩⟩

set_option maxHeartbeats 1600000 in
set_option maxRecDepth 100000 in
theorem numrd_short1 (c : Nat) (s : ByteArray) (F : Nat) (most : Int) (w : World) (c0 : w.cell? ⟨c, 0, none⟩ = some (.string s)) (c1 : w.cell? ⟨c, 1, none⟩ = some (.int .i64 0)) (f1 : w.frozen? ⟨c, 1, none⟩ = false) (_hz : (s.size == 0) = false) (hz2 : 0 < s.size)
    (hF : Hid (wrap64 ((s[0]'hz2).toNat : Int) = (F : Int))) (hlo : 64 ≤ F) (hhi : F < 128) (hs : s.size < 2) :
    Calls Tryd.prog 35 #[.pointer (some ⟨c, 0, none⟩), .int .i64 most] w fun e w' => e = .returned (.int .i64 0) ∧ w.setCell ⟨c, 1, none⟩ (.int .i64 2) = w' := by
  go_enter Tryd.func35, Tryd.ntmps35
  go_wp2
  rw [hF.out]
  clear hF
  refine wp_loop_rounds 2 ?_; rw [rounds_succ]
  go_wp2
  iterate 1 (rw [rounds_succ]; go_wp2)
  go_ret
  exact ⟨rfl, rfl⟩

set_option maxHeartbeats 3200000 in
set_option maxRecDepth 100000 in
theorem numrd_long1 (c : Nat) (s : ByteArray) (F : Nat) (most : Int) (w : World) (hb : w.heap[c]? = some (.cells #[.string s, .int .i64 0] 78 (0, 0))) (_hz : (s.size == 0) = false) (hz2 : 0 < s.size)
    (hF : Hid (wrap64 ((s[0]'hz2).toNat : Int) = (F : Int))) (hlo : 64 ≤ F) (hhi : F < 128) (hs : ¬ s.size < 2) (_hs2 : 2 ≤ s.size) (A : Nat → Int) (hA : NumAcc s F 2 A) (m : Nat) (hm : Hid (A 2 = (m : Int))) (hm2 : Hid (m ≤ 4611686018427387903)) (x : Int)
    (B : List UInt8) (hB : Hid (s.extract 0 2 = str B)) (hx : Hid ((x = 3 ∧ (Wm.enc m == B) = false) ∨ (x = 5 ∧ (Wm.enc m == B) = true ∧ most < (m : Int)) ∨ (x = 0 ∧ (Wm.enc m == B) = true ∧ (m : Int) ≤ most))) :
    Calls Tryd.prog 35 #[.pointer (some ⟨c, 0, none⟩), .int .i64 most] w fun e w' => NumRd w c s 2 m x e w' := by
  have H1 := Lib.hid hA.one
  have H2 := Lib.hid hA.step
  have H3 := Lib.hid hA.bound
  clear hA
  obtain ⟨w1, hw1⟩ : ∃ w1, w1 = w.setCell ⟨c, 0, none⟩ (.string (s.extract 2 s.size)) := ⟨_, rfl⟩
  have Hw1 := Lib.hid hw1
  have c0 := two_cell0 hb
  have c1 := two_cell1 hb
  have f0 := two_free hb 0
  have f1 := two_free hb 1
  have d1 : w1.cell? ⟨c, 1, none⟩ = some (.int .i64 0) := by rw [hw1]; exact two_cell1 (two_set0 hb)
  have g1 : w1.frozen? ⟨c, 1, none⟩ = false := by rw [hw1]; exact two_free (two_set0 hb) 1
  have hs1 : w1.heap.size = w.heap.size := by rw [hw1]; simp [World.setCell]
  have hc1 : c < w1.heap.size := by rw [hs1]; exact (Array.getElem?_eq_some_iff.1 hb).1
  have Hs1 := Lib.hid hs1
  clear hw1 hb hs1
  go_enter Tryd.func35, Tryd.ntmps35
  go_wp2
  rw [hF.out]
  clear hF
  refine wp_loop_rounds 2 ?_; rw [rounds_succ]
  go_wp2
  iterate 1 (rw [rounds_succ]; go_wp2)
  go_loopw [8, 9] (fun n i w9 => ∃ (j : Nat) (a : Int), 1 ≤ j ∧ j ≤ 2 ∧ i = .int .i64 j ∧ n = .int .i64 a ∧ Hid (a = A j) ∧ w9 = w) (fun _ i _ => 2 - (RowKit.intOf i).toNat)
  case atStart => exact ⟨1, (F : Int) % 64, by omega, by omega, by go_num, by go_num, Lib.hid H1.out.symm, rfl⟩
  case round =>
    obtain ⟨j, a, hj1, hj, rfl, rfl, ha, rfl⟩ := hrel
    by_cases hlt : j < 2
    · have hjs : j < s.size := by omega
      have hb := H3.out j hj1 hlt
      rw [← ha.out] at hb
      have hstep := Lib.hid (H2.out j hjs hj1 hlt)
      have hby := (s[j]'hjs).toNat_lt
      go_wp2
      go_roundw
      case rel => exact ⟨j + 1, a * 256 + ((s[j]'hjs).toNat : Int), by omega, by omega, by go_num, by go_num, Lib.hid (by rw [ha.out]; exact hstep.out.symm), by first | rfl | trivial⟩
      case measure => simp [RowKit.intOf]; omega
    · obtain rfl : j = 2 := by omega
      obtain rfl : a = (m : Int) := ha.out.trans hm.out
      clear ha
      go_wp2_with fail
      rw [← Hw1.out, hB.out]
      refine (refnum m w1 hm2.out).mono ?_
      rintro e w2 ⟨rfl, k2⟩
      have d2 : w2.cell? ⟨c, 1, none⟩ = some (.int .i64 0) := (k2.cell (p := ⟨c, 1, none⟩) hc1 (by show c ≠ _; omega)).trans d1
      have g2 : w2.frozen? ⟨c, 1, none⟩ = false := (k2.frozen (p := ⟨c, 1, none⟩) hc1 (by show c ≠ _; omega)).trans g1
      clear d1 g1
      rw [Hs1.out, Hw1.out] at k2
      have hx9 := hx.out
      clear hx
      rcases hx9 with ⟨rfl, hne⟩ | ⟨rfl, hne, hmo⟩ | ⟨rfl, hne, hmo⟩
      · go_wp2
        go_ret
        exact ⟨w2, k2, .inr ⟨by decide, rfl, rfl⟩⟩
      · go_wp2
        go_ret
        exact ⟨w2, k2, .inr ⟨by decide, rfl, rfl⟩⟩
      · go_wp2
        go_ret
        exact ⟨w2, k2, .inl ⟨rfl, rfl, rfl⟩⟩

set_option maxHeartbeats 1600000 in
set_option maxRecDepth 100000 in
theorem numrd_short2 (c : Nat) (s : ByteArray) (F : Nat) (most : Int) (w : World) (c0 : w.cell? ⟨c, 0, none⟩ = some (.string s)) (c1 : w.cell? ⟨c, 1, none⟩ = some (.int .i64 0)) (f1 : w.frozen? ⟨c, 1, none⟩ = false) (_hz : (s.size == 0) = false) (hz2 : 0 < s.size)
    (hF : Hid (wrap64 ((s[0]'hz2).toNat : Int) = (F : Int))) (hlo : 128 ≤ F) (hhi : F < 192) (hs : s.size < 4) :
    Calls Tryd.prog 35 #[.pointer (some ⟨c, 0, none⟩), .int .i64 most] w fun e w' => e = .returned (.int .i64 0) ∧ w.setCell ⟨c, 1, none⟩ (.int .i64 2) = w' := by
  go_enter Tryd.func35, Tryd.ntmps35
  go_wp2
  rw [hF.out]
  clear hF
  refine wp_loop_rounds 3 ?_; rw [rounds_succ]
  go_wp2
  iterate 2 (rw [rounds_succ]; go_wp2)
  go_ret
  exact ⟨rfl, rfl⟩

set_option maxHeartbeats 3200000 in
set_option maxRecDepth 100000 in
theorem numrd_long2 (c : Nat) (s : ByteArray) (F : Nat) (most : Int) (w : World) (hb : w.heap[c]? = some (.cells #[.string s, .int .i64 0] 78 (0, 0))) (_hz : (s.size == 0) = false) (hz2 : 0 < s.size)
    (hF : Hid (wrap64 ((s[0]'hz2).toNat : Int) = (F : Int))) (hlo : 128 ≤ F) (hhi : F < 192) (hs : ¬ s.size < 4) (_hs2 : 4 ≤ s.size) (A : Nat → Int) (hA : NumAcc s F 4 A) (m : Nat) (hm : Hid (A 4 = (m : Int))) (hm2 : Hid (m ≤ 4611686018427387903)) (x : Int)
    (B : List UInt8) (hB : Hid (s.extract 0 4 = str B)) (hx : Hid ((x = 3 ∧ (Wm.enc m == B) = false) ∨ (x = 5 ∧ (Wm.enc m == B) = true ∧ most < (m : Int)) ∨ (x = 0 ∧ (Wm.enc m == B) = true ∧ (m : Int) ≤ most))) :
    Calls Tryd.prog 35 #[.pointer (some ⟨c, 0, none⟩), .int .i64 most] w fun e w' => NumRd w c s 4 m x e w' := by
  have H1 := Lib.hid hA.one
  have H2 := Lib.hid hA.step
  have H3 := Lib.hid hA.bound
  clear hA
  obtain ⟨w1, hw1⟩ : ∃ w1, w1 = w.setCell ⟨c, 0, none⟩ (.string (s.extract 4 s.size)) := ⟨_, rfl⟩
  have Hw1 := Lib.hid hw1
  have c0 := two_cell0 hb
  have c1 := two_cell1 hb
  have f0 := two_free hb 0
  have f1 := two_free hb 1
  have d1 : w1.cell? ⟨c, 1, none⟩ = some (.int .i64 0) := by rw [hw1]; exact two_cell1 (two_set0 hb)
  have g1 : w1.frozen? ⟨c, 1, none⟩ = false := by rw [hw1]; exact two_free (two_set0 hb) 1
  have hs1 : w1.heap.size = w.heap.size := by rw [hw1]; simp [World.setCell]
  have hc1 : c < w1.heap.size := by rw [hs1]; exact (Array.getElem?_eq_some_iff.1 hb).1
  have Hs1 := Lib.hid hs1
  clear hw1 hb hs1
  go_enter Tryd.func35, Tryd.ntmps35
  go_wp2
  rw [hF.out]
  clear hF
  refine wp_loop_rounds 3 ?_; rw [rounds_succ]
  go_wp2
  iterate 2 (rw [rounds_succ]; go_wp2)
  go_loopw [8, 9] (fun n i w9 => ∃ (j : Nat) (a : Int), 1 ≤ j ∧ j ≤ 4 ∧ i = .int .i64 j ∧ n = .int .i64 a ∧ Hid (a = A j) ∧ w9 = w) (fun _ i _ => 4 - (RowKit.intOf i).toNat)
  case atStart => exact ⟨1, (F : Int) % 64, by omega, by omega, by go_num, by go_num, Lib.hid H1.out.symm, rfl⟩
  case round =>
    obtain ⟨j, a, hj1, hj, rfl, rfl, ha, rfl⟩ := hrel
    by_cases hlt : j < 4
    · have hjs : j < s.size := by omega
      have hb := H3.out j hj1 hlt
      rw [← ha.out] at hb
      have hstep := Lib.hid (H2.out j hjs hj1 hlt)
      have hby := (s[j]'hjs).toNat_lt
      go_wp2
      go_roundw
      case rel => exact ⟨j + 1, a * 256 + ((s[j]'hjs).toNat : Int), by omega, by omega, by go_num, by go_num, Lib.hid (by rw [ha.out]; exact hstep.out.symm), by first | rfl | trivial⟩
      case measure => simp [RowKit.intOf]; omega
    · obtain rfl : j = 4 := by omega
      obtain rfl : a = (m : Int) := ha.out.trans hm.out
      clear ha
      go_wp2_with fail
      rw [← Hw1.out, hB.out]
      refine (refnum m w1 hm2.out).mono ?_
      rintro e w2 ⟨rfl, k2⟩
      have d2 : w2.cell? ⟨c, 1, none⟩ = some (.int .i64 0) := (k2.cell (p := ⟨c, 1, none⟩) hc1 (by show c ≠ _; omega)).trans d1
      have g2 : w2.frozen? ⟨c, 1, none⟩ = false := (k2.frozen (p := ⟨c, 1, none⟩) hc1 (by show c ≠ _; omega)).trans g1
      clear d1 g1
      rw [Hs1.out, Hw1.out] at k2
      have hx9 := hx.out
      clear hx
      rcases hx9 with ⟨rfl, hne⟩ | ⟨rfl, hne, hmo⟩ | ⟨rfl, hne, hmo⟩
      · go_wp2
        go_ret
        exact ⟨w2, k2, .inr ⟨by decide, rfl, rfl⟩⟩
      · go_wp2
        go_ret
        exact ⟨w2, k2, .inr ⟨by decide, rfl, rfl⟩⟩
      · go_wp2
        go_ret
        exact ⟨w2, k2, .inl ⟨rfl, rfl, rfl⟩⟩

set_option maxHeartbeats 1600000 in
set_option maxRecDepth 100000 in
theorem numrd_short3 (c : Nat) (s : ByteArray) (F : Nat) (most : Int) (w : World) (c0 : w.cell? ⟨c, 0, none⟩ = some (.string s)) (c1 : w.cell? ⟨c, 1, none⟩ = some (.int .i64 0)) (f1 : w.frozen? ⟨c, 1, none⟩ = false) (_hz : (s.size == 0) = false) (hz2 : 0 < s.size)
    (hF : Hid (wrap64 ((s[0]'hz2).toNat : Int) = (F : Int))) (hlo : 192 ≤ F) (hhi : F < 256) (hs : s.size < 8) :
    Calls Tryd.prog 35 #[.pointer (some ⟨c, 0, none⟩), .int .i64 most] w fun e w' => e = .returned (.int .i64 0) ∧ w.setCell ⟨c, 1, none⟩ (.int .i64 2) = w' := by
  go_enter Tryd.func35, Tryd.ntmps35
  go_wp2
  rw [hF.out]
  clear hF
  refine wp_loop_rounds 4 ?_; rw [rounds_succ]
  go_wp2
  iterate 3 (rw [rounds_succ]; go_wp2)
  go_ret
  exact ⟨rfl, rfl⟩

set_option maxHeartbeats 3200000 in
set_option maxRecDepth 100000 in
theorem numrd_long3 (c : Nat) (s : ByteArray) (F : Nat) (most : Int) (w : World) (hb : w.heap[c]? = some (.cells #[.string s, .int .i64 0] 78 (0, 0))) (_hz : (s.size == 0) = false) (hz2 : 0 < s.size)
    (hF : Hid (wrap64 ((s[0]'hz2).toNat : Int) = (F : Int))) (hlo : 192 ≤ F) (hhi : F < 256) (hs : ¬ s.size < 8) (_hs2 : 8 ≤ s.size) (A : Nat → Int) (hA : NumAcc s F 8 A) (m : Nat) (hm : Hid (A 8 = (m : Int))) (hm2 : Hid (m ≤ 4611686018427387903)) (x : Int)
    (B : List UInt8) (hB : Hid (s.extract 0 8 = str B)) (hx : Hid ((x = 3 ∧ (Wm.enc m == B) = false) ∨ (x = 5 ∧ (Wm.enc m == B) = true ∧ most < (m : Int)) ∨ (x = 0 ∧ (Wm.enc m == B) = true ∧ (m : Int) ≤ most))) :
    Calls Tryd.prog 35 #[.pointer (some ⟨c, 0, none⟩), .int .i64 most] w fun e w' => NumRd w c s 8 m x e w' := by
  have H1 := Lib.hid hA.one
  have H2 := Lib.hid hA.step
  have H3 := Lib.hid hA.bound
  clear hA
  obtain ⟨w1, hw1⟩ : ∃ w1, w1 = w.setCell ⟨c, 0, none⟩ (.string (s.extract 8 s.size)) := ⟨_, rfl⟩
  have Hw1 := Lib.hid hw1
  have c0 := two_cell0 hb
  have c1 := two_cell1 hb
  have f0 := two_free hb 0
  have f1 := two_free hb 1
  have d1 : w1.cell? ⟨c, 1, none⟩ = some (.int .i64 0) := by rw [hw1]; exact two_cell1 (two_set0 hb)
  have g1 : w1.frozen? ⟨c, 1, none⟩ = false := by rw [hw1]; exact two_free (two_set0 hb) 1
  have hs1 : w1.heap.size = w.heap.size := by rw [hw1]; simp [World.setCell]
  have hc1 : c < w1.heap.size := by rw [hs1]; exact (Array.getElem?_eq_some_iff.1 hb).1
  have Hs1 := Lib.hid hs1
  clear hw1 hb hs1
  go_enter Tryd.func35, Tryd.ntmps35
  go_wp2
  rw [hF.out]
  clear hF
  refine wp_loop_rounds 4 ?_; rw [rounds_succ]
  go_wp2
  iterate 3 (rw [rounds_succ]; go_wp2)
  go_loopw [8, 9] (fun n i w9 => ∃ (j : Nat) (a : Int), 1 ≤ j ∧ j ≤ 8 ∧ i = .int .i64 j ∧ n = .int .i64 a ∧ Hid (a = A j) ∧ w9 = w) (fun _ i _ => 8 - (RowKit.intOf i).toNat)
  case atStart => exact ⟨1, (F : Int) % 64, by omega, by omega, by go_num, by go_num, Lib.hid H1.out.symm, rfl⟩
  case round =>
    obtain ⟨j, a, hj1, hj, rfl, rfl, ha, rfl⟩ := hrel
    by_cases hlt : j < 8
    · have hjs : j < s.size := by omega
      have hb := H3.out j hj1 hlt
      rw [← ha.out] at hb
      have hstep := Lib.hid (H2.out j hjs hj1 hlt)
      have hby := (s[j]'hjs).toNat_lt
      go_wp2
      go_roundw
      case rel => exact ⟨j + 1, a * 256 + ((s[j]'hjs).toNat : Int), by omega, by omega, by go_num, by go_num, Lib.hid (by rw [ha.out]; exact hstep.out.symm), by first | rfl | trivial⟩
      case measure => simp [RowKit.intOf]; omega
    · obtain rfl : j = 8 := by omega
      obtain rfl : a = (m : Int) := ha.out.trans hm.out
      clear ha
      go_wp2_with fail
      rw [← Hw1.out, hB.out]
      refine (refnum m w1 hm2.out).mono ?_
      rintro e w2 ⟨rfl, k2⟩
      have d2 : w2.cell? ⟨c, 1, none⟩ = some (.int .i64 0) := (k2.cell (p := ⟨c, 1, none⟩) hc1 (by show c ≠ _; omega)).trans d1
      have g2 : w2.frozen? ⟨c, 1, none⟩ = false := (k2.frozen (p := ⟨c, 1, none⟩) hc1 (by show c ≠ _; omega)).trans g1
      clear d1 g1
      rw [Hs1.out, Hw1.out] at k2
      have hx9 := hx.out
      clear hx
      rcases hx9 with ⟨rfl, hne⟩ | ⟨rfl, hne, hmo⟩ | ⟨rfl, hne, hmo⟩
      · go_wp2
        go_ret
        exact ⟨w2, k2, .inr ⟨by decide, rfl, rfl⟩⟩
      · go_wp2
        go_ret
        exact ⟨w2, k2, .inr ⟨by decide, rfl, rfl⟩⟩
      · go_wp2
        go_ret
        exact ⟨w2, k2, .inl ⟨rfl, rfl, rfl⟩⟩

end Go.Proofs.YtdnnccnicaoniaaDoor
