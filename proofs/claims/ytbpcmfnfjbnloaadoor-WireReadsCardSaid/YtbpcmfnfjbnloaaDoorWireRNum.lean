/-
  The reader's call Num: whatever is left, what the document says.
-/
import Derived.Test.YtbpcmfnfjbnloaaDoorWireTake
import Derived.Lib.Hide
namespace Go.Proofs.YtbpcmfnfjbnloaaDoor
open Go.RowKit

theorem num_failed (p : Value) (x most : Int) (w : World) (h : Failed w p x) : Calls Tryd.prog 17 #[p, .int .i64 most] w fun e w' => e = .returned (.int .i64 0) ∧ w = w' := by
  go_enter Tryd.func17, Tryd.ntmps17
  go_wp2_with (go_at_call 38; refine (take_failed p x 1 _ h).mono ?_; rintro e w' ⟨rfl, rfl⟩)
  go_ret
  exact ⟨rfl, rfl⟩

theorem num_empty (top b : Nat) (most : Int) (w : World) (h : Rd w top b [] 0) :
    Calls Tryd.prog 17 #[.pointer (some ⟨b, 0, none⟩), .int .i64 most] w fun e w' => e = .returned (.int .i64 0) ∧ Rd w' top b [] 2 ∧ Kept w.heap.size b w w' := by
  go_enter Tryd.func17, Tryd.ntmps17
  go_wp2_with (go_at_call 38; refine (take_short top b [] 1 _ h (by simp)).mono ?_; rintro e w' ⟨rfl, h1, h2⟩)
  go_ret
  exact ⟨rfl, h1, h2⟩

theorem i64_join (x y : Nat) (hx : x < 36028797018963968) (hy : y < 256) : bits BinOp.or IntKind.i64 ((x : Int) * 256) (y : Int) = ((x * 256 + y : Nat) : Int) := by
  rw [bits_join .i64 63 (by decide) (fun n h₀ h₁ => by rw [IntKind.wrap_i64]; omega) 8 ((x : Int) * 256) y (by omega) (by omega) (by omega) (by omega) (by omega) (by omega)]
  omega
theorem u8_low (f : UInt8) : bits BinOp.and IntKind.u8 (f.toNat : Int) 63 = ((f.toNat % 64 : Nat) : Int) := by
  have := f.toNat_lt
  have e := u8_and63 (x := (f.toNat : Int)) (by omega) (by omega)
  rw [e]
  omega
theorem acc_lt (a : Nat) (ha : a < 64) (l : List UInt8) (i : Nat) (hi : i ≤ 6) : Wm.valOf a (l.take i) < 36028797018963968 := by
  rw [Wm.valOf_eq]
  have h1 := Wm.valOf_lt (l.take i)
  have h2 : (l.take i).length ≤ i := List.length_take_le _ _
  have h3 : 256 ^ (l.take i).length ≤ 256 ^ 6 := Nat.pow_le_pow_right (by omega) (by omega)
  have h4 : a * 256 ^ (l.take i).length ≤ 63 * 256 ^ (l.take i).length := Nat.mul_le_mul_right _ (by omega)
  have h5 : (256 : Nat) ^ 6 = 281474976710656 := by decide
  omega
theorem acc_step (a : Nat) (l : List UInt8) (i : Nat) (hi : i < l.length) : Wm.valOf a (l.take (i + 1)) = Wm.valOf a (l.take i) * 256 + (l[i]).toNat := by
  rw [List.take_succ_eq_append_getElem hi, Wm.valOf_snoc]

/-- What Num answers, and the reader behind it. -/
def NumPost (w : World) (top b : Nat) (r : Wm.Got Int) (e : Ending) (w' : World) : Prop := e = .returned (.int .i64 r.val) ∧ Rd w' top b r.left r.err ∧ Kept w.heap.size b w w'
theorem Kept.step {b : Nat} {w w1 w2 : World} (h : Kept w.heap.size b w w1) (k : Kept w1.heap.size b w1 w2) : Kept w.heap.size b w w2 := h.trans (k.mono h.size (fun _ _ h => h))

set_option maxHeartbeats 800000 in
theorem num_run_0 (top b : Nat) (f : UInt8) (t : List UInt8) (most : Int) (w : World) (h : Rd w top b (f :: t) 0) (hd : (f.toNat : Int) / 64 = 0) (Hd : Hid (f.toNat / 64 = 0)) (Hm : Hid (Wm.more f = 0)) (hs : 0 ≤ t.length) :
    Calls Tryd.prog 17 #[.pointer (some ⟨b, 0, none⟩), .int .i64 most] w fun e w' => NumPost w top b (Wm.rNum (f :: t) most) e w' := by
  have hand := u8_low f
  go_enter Tryd.func17, Tryd.ntmps17
  go_wp2_with fail
  refine (take_ok top b (f :: t) 1 _ h (by simp)).mono ?_
  rintro e w1 ⟨ao, c, rfl, hsh, h1, k1⟩
  obtain ⟨g, o, rfl, hgb1, hgb2, hcell⟩ := hsh (by simp)
  have hc := hcell 0 (by simp)
  simp at hc
  clear hcell hsh
  go_wp2_with fail
  refine (take_ok top b t 0 _ h1 hs).mono ?_
  rintro e w2 ⟨ao2, c2, rfl, hsh, h2, k2⟩
  have hcw : w2.cell? ⟨g, o, none⟩ = some (.int .u8 f.toNat) := (k2.cell (p := ⟨g, o, none⟩) hgb2 hgb1).trans hc
  clear hc
  clear hsh
  go_wp2
  go_loop [9, 41] (fun n i => ∃ (j N : Nat), j ≤ 0 ∧ i = .int .i64 j ∧ n = .int .i64 N ∧ Hid (N = Wm.valOf (f.toNat % 64) (t.take j))) (fun _ i => (0 - intOf i).toNat)
  case atStart => exact ⟨0, f.toNat % 64, by omega, rfl, rfl, Lib.hid rfl⟩
  case round =>
    obtain ⟨i, N, hi, rfl, rfl, HN⟩ := hrel
    by_cases hlt : i < 0
    · omega
    · obtain rfl : i = 0 := by omega
      have hN2 : N = Wm.nval f t := by rw [Wm.nval, Hm.out]; exact HN.out
      clear HN
      have hleast : Wm.least f t = true := by
        have : (f.toNat / 64 = 0 ∨ Wm.bnd (f.toNat / 64 - 1) < Wm.nval f t) := Or.inl Hd.out
        simpa [Wm.least] using this
      by_cases hmost : most < (N : Int)
      · have er : Wm.rNum (f :: t) most = ⟨0, [], 5⟩ := by rw [Wm.rNum, if_neg (by rw [Hm.out]; omega), if_neg (by rw [hleast]; simp), if_pos (by rw [← hN2]; exact hmost)]
        have Er := Lib.hid er
        clear er hleast hN2
        go_wp2_with (go_at_call 25; refine (fail_rd top b _ 0 5 _ h2).mono ?_; rintro e w3 ⟨rfl, h3, k3⟩)
        go_ret
        rw [Er.out]
        exact ⟨rfl, by simpa using h3, (k1.step k2).step k3⟩
      · have er : Wm.rNum (f :: t) most = ⟨(N : Int), t.drop 0, 0⟩ := by rw [Wm.rNum, if_neg (by rw [Hm.out]; omega), if_neg (by rw [hleast]; simp), if_neg (by rw [← hN2]; exact hmost), Hm.out, hN2]
        have Er := Lib.hid er
        clear er hleast hN2
        go_wp2
        go_ret
        rw [Er.out]
        exact ⟨rfl, h2, k1.step k2⟩

theorem num_short_1 (top b : Nat) (f : UInt8) (t : List UInt8) (most : Int) (w : World) (h : Rd w top b (f :: t) 0) (hd : (f.toNat : Int) / 64 = 1) (hs : t.length < 1) :
    Calls Tryd.prog 17 #[.pointer (some ⟨b, 0, none⟩), .int .i64 most] w fun e w' => e = .returned (.int .i64 0) ∧ Rd w' top b [] 2 ∧ Kept w.heap.size b w w' := by
  go_enter Tryd.func17, Tryd.ntmps17
  go_wp2_with fail
  refine (take_ok top b (f :: t) 1 _ h (by simp)).mono ?_
  rintro e w1 ⟨ao, c, rfl, hsh, h1, k1⟩
  obtain ⟨g, o, rfl, hgb1, hgb2, hcell⟩ := hsh (by simp)
  have hc := hcell 0 (by simp)
  simp at hc
  clear hcell hsh
  go_wp2_with fail
  refine (take_short top b t 1 _ h1 hs).mono ?_
  rintro e w2 ⟨rfl, h2, k2⟩
  go_wp2
  go_ret
  exact ⟨rfl, h2, k1.step k2⟩

set_option maxHeartbeats 800000 in
theorem num_run_1 (top b : Nat) (f : UInt8) (t : List UInt8) (most : Int) (w : World) (h : Rd w top b (f :: t) 0) (ht : Tab w) (hb0 : 0 < b) (hd : (f.toNat : Int) / 64 = 1) (Hd : Hid (f.toNat / 64 = 1)) (Hm : Hid (Wm.more f = 1)) (hs : 1 ≤ t.length) :
    Calls Tryd.prog 17 #[.pointer (some ⟨b, 0, none⟩), .int .i64 most] w fun e w' => NumPost w top b (Wm.rNum (f :: t) most) e w' := by
  have ct := ht.at 0 (by decide)
  have h0lt := ht.lt
  have hltw := h.lt
  have hand := u8_low f
  go_enter Tryd.func17, Tryd.ntmps17
  go_wp2_with fail
  refine (take_ok top b (f :: t) 1 _ h (by simp)).mono ?_
  rintro e w1 ⟨ao, c, rfl, hsh, h1, k1⟩
  obtain ⟨g, o, rfl, hgb1, hgb2, hcell⟩ := hsh (by simp)
  have hc := hcell 0 (by simp)
  simp at hc
  clear hcell hsh
  go_wp2_with fail
  refine (take_ok top b t 1 _ h1 hs).mono ?_
  rintro e w2 ⟨ao2, c2, rfl, hsh, h2, k2⟩
  have hcw : w2.cell? ⟨g, o, none⟩ = some (.int .u8 f.toNat) := (k2.cell (p := ⟨g, o, none⟩) hgb2 hgb1).trans hc
  clear hc
  have ct2 : w2.cell? ⟨0, 0, none⟩ = some (.int .i64 63) := ((k1.step k2).cell (p := ⟨0, 0, none⟩) h0lt (by show 0 ≠ b; omega)).trans ct
  clear ct
  obtain ⟨g2, o2, rfl, _, _, hcell⟩ := hsh (by rw [List.length_take]; omega)
  have hcells : ∀ j (hj : j < t.length), j < 1 → w2.cell? ⟨g2, o2 + j, none⟩ = some (.int .u8 (t[j]).toNat) := fun j hj hjm => by
    have := hcell j (by rw [List.length_take]; omega)
    rwa [List.getElem_take] at this
  have Hcells := Lib.hid hcells
  clear hcell hsh hcells
  go_wp2
  go_loop [9, 41] (fun n i => ∃ (j N : Nat), j ≤ 1 ∧ i = .int .i64 j ∧ n = .int .i64 N ∧ Hid (N = Wm.valOf (f.toNat % 64) (t.take j))) (fun _ i => (1 - intOf i).toNat)
  case atStart => exact ⟨0, f.toNat % 64, by omega, rfl, rfl, Lib.hid rfl⟩
  case round =>
    obtain ⟨i, N, hi, rfl, rfl, HN⟩ := hrel
    by_cases hlt : i < 1
    · have hit : i < t.length := by omega
      have hc2 := Hcells.out i hit hlt
      have hstep := acc_step (f.toNat % 64) t i hit
      have hy : (t[i]).toNat < 256 := (t[i]).toNat_lt
      have hN3 := HN.out
      have hNlt : N < 36028797018963968 := by rw [hN3]; exact acc_lt _ (Nat.mod_lt _ (by decide)) _ _ (by omega)
      rw [← hN3] at hstep
      clear hN3
      generalize (t[i]).toNat = y at hc2 hstep hy
      have hor := i64_join N y hNlt hy
      have Hstep := Lib.hid hstep
      clear hstep
      go_wp2
      go_round
      case rel => exact ⟨i + 1, N * 256 + y, by omega, by go_num, rfl, Lib.hid Hstep.out.symm⟩
      case measure => simp [intOf]; omega
    · obtain rfl : i = 1 := by omega
      have hN2 : N = Wm.nval f t := by rw [Wm.nval, Hm.out]; exact HN.out
      clear HN
      by_cases hl : N ≤ 63
      · have hleast : Wm.least f t = false := by
          have : ¬ (f.toNat / 64 = 0 ∨ Wm.bnd (f.toNat / 64 - 1) < Wm.nval f t) := by rw [Hd.out, ← hN2]; simp only [Wm.bnd]; omega
          simpa [Wm.least] using this
        have er : Wm.rNum (f :: t) most = ⟨0, [], 3⟩ := by rw [Wm.rNum, if_neg (by rw [Hm.out]; omega), if_pos hleast]
        have Er := Lib.hid er
        clear er hleast hN2
        go_wp2_with (go_at_call 25; refine (fail_rd top b _ 0 3 _ h2).mono ?_; rintro e w3 ⟨rfl, h3, k3⟩)
        go_ret
        rw [Er.out]
        exact ⟨rfl, by simpa using h3, (k1.step k2).step k3⟩
      · have hleast : Wm.least f t = true := by
          have : (f.toNat / 64 = 0 ∨ Wm.bnd (f.toNat / 64 - 1) < Wm.nval f t) := by rw [Hd.out, ← hN2]; simp only [Wm.bnd]; omega
          simpa [Wm.least] using this
        by_cases hmost : most < (N : Int)
        · have er : Wm.rNum (f :: t) most = ⟨0, [], 5⟩ := by rw [Wm.rNum, if_neg (by rw [Hm.out]; omega), if_neg (by rw [hleast]; simp), if_pos (by rw [← hN2]; exact hmost)]
          have Er := Lib.hid er
          clear er hleast hN2
          go_wp2_with (go_at_call 25; refine (fail_rd top b _ 0 5 _ h2).mono ?_; rintro e w3 ⟨rfl, h3, k3⟩)
          go_ret
          rw [Er.out]
          exact ⟨rfl, by simpa using h3, (k1.step k2).step k3⟩
        · have er : Wm.rNum (f :: t) most = ⟨(N : Int), t.drop 1, 0⟩ := by rw [Wm.rNum, if_neg (by rw [Hm.out]; omega), if_neg (by rw [hleast]; simp), if_neg (by rw [← hN2]; exact hmost), Hm.out, hN2]
          have Er := Lib.hid er
          clear er hleast hN2
          go_wp2
          go_ret
          rw [Er.out]
          exact ⟨rfl, h2, k1.step k2⟩

theorem num_short_2 (top b : Nat) (f : UInt8) (t : List UInt8) (most : Int) (w : World) (h : Rd w top b (f :: t) 0) (hd : (f.toNat : Int) / 64 = 2) (hs : t.length < 3) :
    Calls Tryd.prog 17 #[.pointer (some ⟨b, 0, none⟩), .int .i64 most] w fun e w' => e = .returned (.int .i64 0) ∧ Rd w' top b [] 2 ∧ Kept w.heap.size b w w' := by
  go_enter Tryd.func17, Tryd.ntmps17
  go_wp2_with fail
  refine (take_ok top b (f :: t) 1 _ h (by simp)).mono ?_
  rintro e w1 ⟨ao, c, rfl, hsh, h1, k1⟩
  obtain ⟨g, o, rfl, hgb1, hgb2, hcell⟩ := hsh (by simp)
  have hc := hcell 0 (by simp)
  simp at hc
  clear hcell hsh
  go_wp2_with fail
  refine (take_short top b t 3 _ h1 hs).mono ?_
  rintro e w2 ⟨rfl, h2, k2⟩
  go_wp2
  go_ret
  exact ⟨rfl, h2, k1.step k2⟩

set_option maxHeartbeats 800000 in
theorem num_run_2 (top b : Nat) (f : UInt8) (t : List UInt8) (most : Int) (w : World) (h : Rd w top b (f :: t) 0) (ht : Tab w) (hb0 : 0 < b) (hd : (f.toNat : Int) / 64 = 2) (Hd : Hid (f.toNat / 64 = 2)) (Hm : Hid (Wm.more f = 3)) (hs : 3 ≤ t.length) :
    Calls Tryd.prog 17 #[.pointer (some ⟨b, 0, none⟩), .int .i64 most] w fun e w' => NumPost w top b (Wm.rNum (f :: t) most) e w' := by
  have ct := ht.at 1 (by decide)
  have h0lt := ht.lt
  have hltw := h.lt
  have hand := u8_low f
  go_enter Tryd.func17, Tryd.ntmps17
  go_wp2_with fail
  refine (take_ok top b (f :: t) 1 _ h (by simp)).mono ?_
  rintro e w1 ⟨ao, c, rfl, hsh, h1, k1⟩
  obtain ⟨g, o, rfl, hgb1, hgb2, hcell⟩ := hsh (by simp)
  have hc := hcell 0 (by simp)
  simp at hc
  clear hcell hsh
  go_wp2_with fail
  refine (take_ok top b t 3 _ h1 hs).mono ?_
  rintro e w2 ⟨ao2, c2, rfl, hsh, h2, k2⟩
  have hcw : w2.cell? ⟨g, o, none⟩ = some (.int .u8 f.toNat) := (k2.cell (p := ⟨g, o, none⟩) hgb2 hgb1).trans hc
  clear hc
  have ct2 : w2.cell? ⟨0, 1, none⟩ = some (.int .i64 16383) := ((k1.step k2).cell (p := ⟨0, 1, none⟩) h0lt (by show 0 ≠ b; omega)).trans ct
  clear ct
  obtain ⟨g2, o2, rfl, _, _, hcell⟩ := hsh (by rw [List.length_take]; omega)
  have hcells : ∀ j (hj : j < t.length), j < 3 → w2.cell? ⟨g2, o2 + j, none⟩ = some (.int .u8 (t[j]).toNat) := fun j hj hjm => by
    have := hcell j (by rw [List.length_take]; omega)
    rwa [List.getElem_take] at this
  have Hcells := Lib.hid hcells
  clear hcell hsh hcells
  go_wp2
  go_loop [9, 41] (fun n i => ∃ (j N : Nat), j ≤ 3 ∧ i = .int .i64 j ∧ n = .int .i64 N ∧ Hid (N = Wm.valOf (f.toNat % 64) (t.take j))) (fun _ i => (3 - intOf i).toNat)
  case atStart => exact ⟨0, f.toNat % 64, by omega, rfl, rfl, Lib.hid rfl⟩
  case round =>
    obtain ⟨i, N, hi, rfl, rfl, HN⟩ := hrel
    by_cases hlt : i < 3
    · have hit : i < t.length := by omega
      have hc2 := Hcells.out i hit hlt
      have hstep := acc_step (f.toNat % 64) t i hit
      have hy : (t[i]).toNat < 256 := (t[i]).toNat_lt
      have hN3 := HN.out
      have hNlt : N < 36028797018963968 := by rw [hN3]; exact acc_lt _ (Nat.mod_lt _ (by decide)) _ _ (by omega)
      rw [← hN3] at hstep
      clear hN3
      generalize (t[i]).toNat = y at hc2 hstep hy
      have hor := i64_join N y hNlt hy
      have Hstep := Lib.hid hstep
      clear hstep
      go_wp2
      go_round
      case rel => exact ⟨i + 1, N * 256 + y, by omega, by go_num, rfl, Lib.hid Hstep.out.symm⟩
      case measure => simp [intOf]; omega
    · obtain rfl : i = 3 := by omega
      have hN2 : N = Wm.nval f t := by rw [Wm.nval, Hm.out]; exact HN.out
      clear HN
      by_cases hl : N ≤ 16383
      · have hleast : Wm.least f t = false := by
          have : ¬ (f.toNat / 64 = 0 ∨ Wm.bnd (f.toNat / 64 - 1) < Wm.nval f t) := by rw [Hd.out, ← hN2]; simp only [Wm.bnd]; omega
          simpa [Wm.least] using this
        have er : Wm.rNum (f :: t) most = ⟨0, [], 3⟩ := by rw [Wm.rNum, if_neg (by rw [Hm.out]; omega), if_pos hleast]
        have Er := Lib.hid er
        clear er hleast hN2
        go_wp2_with (go_at_call 25; refine (fail_rd top b _ 0 3 _ h2).mono ?_; rintro e w3 ⟨rfl, h3, k3⟩)
        go_ret
        rw [Er.out]
        exact ⟨rfl, by simpa using h3, (k1.step k2).step k3⟩
      · have hleast : Wm.least f t = true := by
          have : (f.toNat / 64 = 0 ∨ Wm.bnd (f.toNat / 64 - 1) < Wm.nval f t) := by rw [Hd.out, ← hN2]; simp only [Wm.bnd]; omega
          simpa [Wm.least] using this
        by_cases hmost : most < (N : Int)
        · have er : Wm.rNum (f :: t) most = ⟨0, [], 5⟩ := by rw [Wm.rNum, if_neg (by rw [Hm.out]; omega), if_neg (by rw [hleast]; simp), if_pos (by rw [← hN2]; exact hmost)]
          have Er := Lib.hid er
          clear er hleast hN2
          go_wp2_with (go_at_call 25; refine (fail_rd top b _ 0 5 _ h2).mono ?_; rintro e w3 ⟨rfl, h3, k3⟩)
          go_ret
          rw [Er.out]
          exact ⟨rfl, by simpa using h3, (k1.step k2).step k3⟩
        · have er : Wm.rNum (f :: t) most = ⟨(N : Int), t.drop 3, 0⟩ := by rw [Wm.rNum, if_neg (by rw [Hm.out]; omega), if_neg (by rw [hleast]; simp), if_neg (by rw [← hN2]; exact hmost), Hm.out, hN2]
          have Er := Lib.hid er
          clear er hleast hN2
          go_wp2
          go_ret
          rw [Er.out]
          exact ⟨rfl, h2, k1.step k2⟩

theorem num_short_3 (top b : Nat) (f : UInt8) (t : List UInt8) (most : Int) (w : World) (h : Rd w top b (f :: t) 0) (hd : (f.toNat : Int) / 64 = 3) (hs : t.length < 7) :
    Calls Tryd.prog 17 #[.pointer (some ⟨b, 0, none⟩), .int .i64 most] w fun e w' => e = .returned (.int .i64 0) ∧ Rd w' top b [] 2 ∧ Kept w.heap.size b w w' := by
  go_enter Tryd.func17, Tryd.ntmps17
  go_wp2_with fail
  refine (take_ok top b (f :: t) 1 _ h (by simp)).mono ?_
  rintro e w1 ⟨ao, c, rfl, hsh, h1, k1⟩
  obtain ⟨g, o, rfl, hgb1, hgb2, hcell⟩ := hsh (by simp)
  have hc := hcell 0 (by simp)
  simp at hc
  clear hcell hsh
  go_wp2_with fail
  refine (take_short top b t 7 _ h1 hs).mono ?_
  rintro e w2 ⟨rfl, h2, k2⟩
  go_wp2
  go_ret
  exact ⟨rfl, h2, k1.step k2⟩

set_option maxHeartbeats 800000 in
theorem num_run_3 (top b : Nat) (f : UInt8) (t : List UInt8) (most : Int) (w : World) (h : Rd w top b (f :: t) 0) (ht : Tab w) (hb0 : 0 < b) (hd : (f.toNat : Int) / 64 = 3) (Hd : Hid (f.toNat / 64 = 3)) (Hm : Hid (Wm.more f = 7)) (hs : 7 ≤ t.length) :
    Calls Tryd.prog 17 #[.pointer (some ⟨b, 0, none⟩), .int .i64 most] w fun e w' => NumPost w top b (Wm.rNum (f :: t) most) e w' := by
  have ct := ht.at 2 (by decide)
  have h0lt := ht.lt
  have hltw := h.lt
  have hand := u8_low f
  go_enter Tryd.func17, Tryd.ntmps17
  go_wp2_with fail
  refine (take_ok top b (f :: t) 1 _ h (by simp)).mono ?_
  rintro e w1 ⟨ao, c, rfl, hsh, h1, k1⟩
  obtain ⟨g, o, rfl, hgb1, hgb2, hcell⟩ := hsh (by simp)
  have hc := hcell 0 (by simp)
  simp at hc
  clear hcell hsh
  go_wp2_with fail
  refine (take_ok top b t 7 _ h1 hs).mono ?_
  rintro e w2 ⟨ao2, c2, rfl, hsh, h2, k2⟩
  have hcw : w2.cell? ⟨g, o, none⟩ = some (.int .u8 f.toNat) := (k2.cell (p := ⟨g, o, none⟩) hgb2 hgb1).trans hc
  clear hc
  have ct2 : w2.cell? ⟨0, 2, none⟩ = some (.int .i64 1073741823) := ((k1.step k2).cell (p := ⟨0, 2, none⟩) h0lt (by show 0 ≠ b; omega)).trans ct
  clear ct
  obtain ⟨g2, o2, rfl, _, _, hcell⟩ := hsh (by rw [List.length_take]; omega)
  have hcells : ∀ j (hj : j < t.length), j < 7 → w2.cell? ⟨g2, o2 + j, none⟩ = some (.int .u8 (t[j]).toNat) := fun j hj hjm => by
    have := hcell j (by rw [List.length_take]; omega)
    rwa [List.getElem_take] at this
  have Hcells := Lib.hid hcells
  clear hcell hsh hcells
  go_wp2
  go_loop [9, 41] (fun n i => ∃ (j N : Nat), j ≤ 7 ∧ i = .int .i64 j ∧ n = .int .i64 N ∧ Hid (N = Wm.valOf (f.toNat % 64) (t.take j))) (fun _ i => (7 - intOf i).toNat)
  case atStart => exact ⟨0, f.toNat % 64, by omega, rfl, rfl, Lib.hid rfl⟩
  case round =>
    obtain ⟨i, N, hi, rfl, rfl, HN⟩ := hrel
    by_cases hlt : i < 7
    · have hit : i < t.length := by omega
      have hc2 := Hcells.out i hit hlt
      have hstep := acc_step (f.toNat % 64) t i hit
      have hy : (t[i]).toNat < 256 := (t[i]).toNat_lt
      have hN3 := HN.out
      have hNlt : N < 36028797018963968 := by rw [hN3]; exact acc_lt _ (Nat.mod_lt _ (by decide)) _ _ (by omega)
      rw [← hN3] at hstep
      clear hN3
      generalize (t[i]).toNat = y at hc2 hstep hy
      have hor := i64_join N y hNlt hy
      have Hstep := Lib.hid hstep
      clear hstep
      go_wp2
      go_round
      case rel => exact ⟨i + 1, N * 256 + y, by omega, by go_num, rfl, Lib.hid Hstep.out.symm⟩
      case measure => simp [intOf]; omega
    · obtain rfl : i = 7 := by omega
      have hN2 : N = Wm.nval f t := by rw [Wm.nval, Hm.out]; exact HN.out
      clear HN
      by_cases hl : N ≤ 1073741823
      · have hleast : Wm.least f t = false := by
          have : ¬ (f.toNat / 64 = 0 ∨ Wm.bnd (f.toNat / 64 - 1) < Wm.nval f t) := by rw [Hd.out, ← hN2]; simp only [Wm.bnd]; omega
          simpa [Wm.least] using this
        have er : Wm.rNum (f :: t) most = ⟨0, [], 3⟩ := by rw [Wm.rNum, if_neg (by rw [Hm.out]; omega), if_pos hleast]
        have Er := Lib.hid er
        clear er hleast hN2
        go_wp2_with (go_at_call 25; refine (fail_rd top b _ 0 3 _ h2).mono ?_; rintro e w3 ⟨rfl, h3, k3⟩)
        go_ret
        rw [Er.out]
        exact ⟨rfl, by simpa using h3, (k1.step k2).step k3⟩
      · have hleast : Wm.least f t = true := by
          have : (f.toNat / 64 = 0 ∨ Wm.bnd (f.toNat / 64 - 1) < Wm.nval f t) := by rw [Hd.out, ← hN2]; simp only [Wm.bnd]; omega
          simpa [Wm.least] using this
        by_cases hmost : most < (N : Int)
        · have er : Wm.rNum (f :: t) most = ⟨0, [], 5⟩ := by rw [Wm.rNum, if_neg (by rw [Hm.out]; omega), if_neg (by rw [hleast]; simp), if_pos (by rw [← hN2]; exact hmost)]
          have Er := Lib.hid er
          clear er hleast hN2
          go_wp2_with (go_at_call 25; refine (fail_rd top b _ 0 5 _ h2).mono ?_; rintro e w3 ⟨rfl, h3, k3⟩)
          go_ret
          rw [Er.out]
          exact ⟨rfl, by simpa using h3, (k1.step k2).step k3⟩
        · have er : Wm.rNum (f :: t) most = ⟨(N : Int), t.drop 7, 0⟩ := by rw [Wm.rNum, if_neg (by rw [Hm.out]; omega), if_neg (by rw [hleast]; simp), if_neg (by rw [← hN2]; exact hmost), Hm.out, hN2]
          have Er := Lib.hid er
          clear er hleast hN2
          go_wp2
          go_ret
          rw [Er.out]
          exact ⟨rfl, h2, k1.step k2⟩

theorem num_run (top b : Nat) (l : List UInt8) (most : Int) (w : World) (h : Rd w top b l 0) (ht : Tab w) (hb0 : 0 < b) :
    Calls Tryd.prog 17 #[.pointer (some ⟨b, 0, none⟩), .int .i64 most] w fun e w' => NumPost w top b (Wm.rNum l most) e w' := by
  cases l with
  | nil => exact num_empty top b most w h
  | cons f t =>
    rcases Wm.more_cases f with ⟨a, m⟩ | ⟨a, m⟩ | ⟨a, m⟩ | ⟨a, m⟩
    · exact num_run_0 top b f t most w h (by omega) a m (by omega)
    · by_cases hs : t.length < 1
      · have er : Wm.rNum (f :: t) most = ⟨0, [], 2⟩ := by rw [Wm.rNum, if_pos (by omega)]
        rw [er]; exact num_short_1 top b f t most w h (by omega) hs
      · exact num_run_1 top b f t most w h ht hb0 (by omega) a m (by omega)
    · by_cases hs : t.length < 3
      · have er : Wm.rNum (f :: t) most = ⟨0, [], 2⟩ := by rw [Wm.rNum, if_pos (by omega)]
        rw [er]; exact num_short_2 top b f t most w h (by omega) hs
      · exact num_run_2 top b f t most w h ht hb0 (by omega) a m (by omega)
    · by_cases hs : t.length < 7
      · have er : Wm.rNum (f :: t) most = ⟨0, [], 2⟩ := by rw [Wm.rNum, if_pos (by omega)]
        rw [er]; exact num_short_3 top b f t most w h (by omega) hs
      · exact num_run_3 top b f t most w h ht hb0 (by omega) a m (by omega)

end Go.Proofs.YtbpcmfnfjbnloaaDoor
