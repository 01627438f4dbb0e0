/-
  The writer's call Num: whatever the number, what the document says: its bytes behind what there is, or the writer is spoilt.
-/
import Derived.Test.YtbpcmfnfjbnloaaDoorWireWriter
import Derived.Outline
namespace Go.Proofs.YtbpcmfnfjbnloaaDoor
open Go.RowKit

theorem wnum_bad (base b : Nat) (p : Value) (st : Option (List UInt8)) (n : Int) (w : World) (h : WrV w base b p st) (hn : n < 0 ∨ 4611686018427387903 < n) :
    Calls Tryd.prog 30 #[p, .int .i64 n] w fun e w' => e = .returned (.tuple #[]) ∧ WrV w' base b p none ∧ Kept base b w w' ∧ Fr b w w' := by
  rcases hn with hn | hn
  · go_enter Tryd.func30, Tryd.ntmps30
    go_wp2_with (go_at_call 40; refine (spoil_v base b p st _ h).mono ?_; rintro e w' ⟨rfl, h1, h2⟩)
    refine bodyPost_ret (results_none rfl _ _ _) rfl ?_
    exact ⟨rfl, h1, h2⟩
  · have hn0 : ¬ n < 0 := by omega
    go_enter Tryd.func30, Tryd.ntmps30
    go_wp2_with (go_at_call 40; refine (spoil_v base b p st _ h).mono ?_; rintro e w' ⟨rfl, h1, h2⟩)
    refine bodyPost_ret (results_none rfl _ _ _) rfl ?_
    exact ⟨rfl, h1, h2⟩

theorem or_low (a i n : Nat) (h : n < 2 ^ i) : (a * 2 ^ i) ||| n = a * 2 ^ i + n := by
  rw [← Nat.shiftLeft_eq, Nat.shiftLeft_add_eq_or_of_lt h]
theorem mark0 (n : Nat) (h : n ≤ 63) : bits BinOp.or IntKind.u64 0 n = ((0 + n : Nat) : Int) := by
  have := u64_or_nat 0 n (by omega) (by omega)
  rw [show ((0 : Int)) = ((0 : Nat) : Int) from rfl, this, Nat.zero_or, Nat.zero_add]
theorem mark1 (n : Nat) (h : n ≤ 16383) : bits BinOp.or IntKind.u64 16384 n = ((16384 + n : Nat) : Int) := by
  have := u64_or_nat 16384 n (by omega) (by omega)
  rw [show ((16384 : Int)) = ((16384 : Nat) : Int) from rfl, this, or_low 1 14 n (by omega)]
theorem mark2 (n : Nat) (h : n ≤ 1073741823) : bits BinOp.or IntKind.u64 2147483648 n = ((2147483648 + n : Nat) : Int) := by
  have := u64_or_nat 2147483648 n (by omega) (by omega)
  rw [show ((2147483648 : Int)) = ((2147483648 : Nat) : Int) from rfl, this, or_low 2 30 n (by omega)]
theorem mark3 (n : Nat) (h : n ≤ 4611686018427387903) : bits BinOp.or IntKind.u64 13835058055282163712 n = ((13835058055282163712 + n : Nat) : Int) := by
  have := u64_or_nat 13835058055282163712 n (by omega) (by omega)
  rw [show ((13835058055282163712 : Int)) = ((13835058055282163712 : Nat) : Int) from rfl, this, or_low 3 62 n (by omega)]

theorem byte_at (m j : Nat) : ((m : Int) / 2 ^ (8 * j) % 256) = ((UInt8.ofNat (m / 256 ^ j)).toNat : Int) := by
  rw [UInt8.toNat_ofNat']
  have e : ((2 : Int) ^ (8 * j)) = ((256 ^ j : Nat) : Int) := by rw [Int.pow_mul]; simp
  rw [e]
  have e2 : ((m : Int) / ((256 ^ j : Nat) : Int)) = ((m / 256 ^ j : Nat) : Int) := by simp
  rw [e2]
  omega

theorem one_cell (w : World) (x : Int) (c : UInt8) (hx : x = c.toNat) : ∀ j (hj : j < [c].length), (w.alloc (.cells #[.int .u8 x] 5)).cell? (Addr.add ⟨w.heap.size, 0, none⟩ j) = some (.int .u8 ([c][j]).toNat) := by
  intro j hj
  have : j = 0 := by simpa using hj
  subst this
  rw [hx]
  exact World.cell?_alloc_new w _ _ 0

/-- One byte more in the loop. -/
theorem pRaw_step (st st0 : Option (List UInt8)) (m j : Nat) (l : List UInt8) (h : pRaw st (Wm.be m (j + 1)) = pRaw st0 l) : pRaw (pRaw st [UInt8.ofNat (m / 256 ^ j)]) (Wm.be m j) = pRaw st0 l := by
  rw [← h]
  cases st with
  | none => rfl
  | some l => simp [pRaw, Wm.be]
theorem short_step (st : Option (List UInt8)) (c : UInt8) (n : Nat) (h : Short st n) : Short (pRaw st [c]) (n + 1) := by
  intro l hl
  cases st with
  | none => cases hl
  | some l0 =>
    simp only [pRaw, Option.map_some, Option.some.injEq] at hl
    subst hl
    have := h l0 rfl
    simp
    omega
theorem pRaw_nil (st : Option (List UInt8)) : pRaw st [] = st := by cases st <;> simp [pRaw]

theorem wnum_0 (base b : Nat) (p : Value) (st : Option (List UInt8)) (n : Nat) (w : World) (h : WrV w base b p st) (ht : Tab w) (h2 : n ≤ 63) (hlen : Short st 800000000) :
    Calls Tryd.prog 30 #[p, .int .i64 n] w fun e w' => e = .returned (.tuple #[]) ∧ WrV w' base b p (pRaw st (Wm.be (0 + n) 1)) ∧ Kept base b w w' ∧ Fr b w w' := by
  have c0 := ht.c0
  go_enter Tryd.func30, Tryd.ntmps30
  go_wp2
  refine wp_loop_rounds 1 ?_; rw [rounds_succ]
  go_wp2
  rw [mark0 n h2]
  obtain ⟨m, hm⟩ : ∃ m : Nat, m = 0 + n := ⟨_, rfl⟩
  rw [← hm]
  have hm64 : m < 18446744073709551616 := by omega
  have Hm : Hid (m = 0 + n) := hm
  clear hm
  go_loopw [7] (fun i wr => ∃ (k : Nat) (q : Int) (st' : Option (List UInt8)), k ≤ 1 ∧ q + 1 = (k : Int) ∧ i = .int .i64 q ∧ WrV wr base b p st' ∧ (Kept base b w wr ∧ Fr b w wr) ∧ pRaw st' (Wm.be m k) = pRaw st (Wm.be m 1) ∧ Short st' (800000000 + (1 - k))) (fun i _ => (intOf i + 1).toNat)
  case atStart => exact ⟨1, 0, st, by omega, by omega, rfl, h, ⟨Kept.refl _ _ _, Fr.refl _ _⟩, rfl, hlen⟩
  case round =>
    obtain ⟨k, q, st', hk, hq, rfl, hw, hkept, hst, hsh⟩ := hrel
    have Hst : Hid (pRaw st' (Wm.be m k) = pRaw st (Wm.be m 1)) := hst
    clear hst
    cases k with
    | zero =>
      obtain rfl : q = -1 := by omega
      clear hq
      go_wp2
      go_end0
      have e := Hst.out
      rw [Wm.be, pRaw_nil] at e
      rw [← Hm.out, ← e]
      exact ⟨rfl, hw, hkept⟩
    | succ j =>
      obtain rfl : q = (j : Int) := by omega
      clear hq
      have hle := hw.le
      go_wp2_with (go_at_call 41; refine (put_v base b p st' ⟨wr.heap.size, 0, none⟩ 1 1 [UInt8.ofNat (m / 256 ^ j)] _ (hw.alloc _) rfl (one_cell wr _ _ (byte_at m j)) (fun l hl => by have := hsh l hl; omega) (by omega)).mono ?_; rintro e w' ⟨rfl, hw', hk', hf'⟩)
      go_roundw
      case rel => exact ⟨j, (j : Int) - 1, pRaw st' [UInt8.ofNat (m / 256 ^ j)], by omega, by omega, rfl, hw', ⟨(hkept.1.alloc hle _).trans hk', (hkept.2.alloc _).trans hf'⟩, pRaw_step _ _ _ _ _ Hst.out, fun l hl => by have := short_step _ _ _ hsh l hl; omega⟩
      case measure => simp [intOf]

theorem wnum_1 (base b : Nat) (p : Value) (st : Option (List UInt8)) (n : Nat) (w : World) (h : WrV w base b p st) (ht : Tab w) (h1 : 63 < n) (h2 : n ≤ 16383) (hlen : Short st 800000000) :
    Calls Tryd.prog 30 #[p, .int .i64 n] w fun e w' => e = .returned (.tuple #[]) ∧ WrV w' base b p (pRaw st (Wm.be (16384 + n) 2)) ∧ Kept base b w w' ∧ Fr b w w' := by
  have c0 := ht.c0
  have c1 := ht.c1
  go_enter Tryd.func30, Tryd.ntmps30
  go_wp2
  refine wp_loop_rounds 2 ?_; rw [rounds_succ]
  go_wp2
  rw [rounds_succ]
  go_wp2
  rw [mark1 n h2]
  obtain ⟨m, hm⟩ : ∃ m : Nat, m = 16384 + n := ⟨_, rfl⟩
  rw [← hm]
  have hm64 : m < 18446744073709551616 := by omega
  have Hm : Hid (m = 16384 + n) := hm
  clear hm
  go_loopw [7] (fun i wr => ∃ (k : Nat) (q : Int) (st' : Option (List UInt8)), k ≤ 2 ∧ q + 1 = (k : Int) ∧ i = .int .i64 q ∧ WrV wr base b p st' ∧ (Kept base b w wr ∧ Fr b w wr) ∧ pRaw st' (Wm.be m k) = pRaw st (Wm.be m 2) ∧ Short st' (800000000 + (2 - k))) (fun i _ => (intOf i + 1).toNat)
  case atStart => exact ⟨2, 1, st, by omega, by omega, rfl, h, ⟨Kept.refl _ _ _, Fr.refl _ _⟩, rfl, hlen⟩
  case round =>
    obtain ⟨k, q, st', hk, hq, rfl, hw, hkept, hst, hsh⟩ := hrel
    have Hst : Hid (pRaw st' (Wm.be m k) = pRaw st (Wm.be m 2)) := hst
    clear hst
    cases k with
    | zero =>
      obtain rfl : q = -1 := by omega
      clear hq
      go_wp2
      go_end0
      have e := Hst.out
      rw [Wm.be, pRaw_nil] at e
      rw [← Hm.out, ← e]
      exact ⟨rfl, hw, hkept⟩
    | succ j =>
      obtain rfl : q = (j : Int) := by omega
      clear hq
      have hle := hw.le
      go_wp2_with (go_at_call 41; refine (put_v base b p st' ⟨wr.heap.size, 0, none⟩ 1 1 [UInt8.ofNat (m / 256 ^ j)] _ (hw.alloc _) rfl (one_cell wr _ _ (byte_at m j)) (fun l hl => by have := hsh l hl; omega) (by omega)).mono ?_; rintro e w' ⟨rfl, hw', hk', hf'⟩)
      go_roundw
      case rel => exact ⟨j, (j : Int) - 1, pRaw st' [UInt8.ofNat (m / 256 ^ j)], by omega, by omega, rfl, hw', ⟨(hkept.1.alloc hle _).trans hk', (hkept.2.alloc _).trans hf'⟩, pRaw_step _ _ _ _ _ Hst.out, fun l hl => by have := short_step _ _ _ hsh l hl; omega⟩
      case measure => simp [intOf]

theorem wnum_2 (base b : Nat) (p : Value) (st : Option (List UInt8)) (n : Nat) (w : World) (h : WrV w base b p st) (ht : Tab w) (h1 : 16383 < n) (h2 : n ≤ 1073741823) (hlen : Short st 800000000) :
    Calls Tryd.prog 30 #[p, .int .i64 n] w fun e w' => e = .returned (.tuple #[]) ∧ WrV w' base b p (pRaw st (Wm.be (2147483648 + n) 4)) ∧ Kept base b w w' ∧ Fr b w w' := by
  have c0 := ht.c0
  have c1 := ht.c1
  have c2 := ht.c2
  have g0 : 63 < n := by omega
  go_enter Tryd.func30, Tryd.ntmps30
  go_wp2
  refine wp_loop_rounds 3 ?_; rw [rounds_succ]
  go_wp2
  rw [rounds_succ]
  go_wp2
  rw [rounds_succ]
  go_wp2
  rw [mark2 n h2]
  obtain ⟨m, hm⟩ : ∃ m : Nat, m = 2147483648 + n := ⟨_, rfl⟩
  rw [← hm]
  have hm64 : m < 18446744073709551616 := by omega
  have Hm : Hid (m = 2147483648 + n) := hm
  clear hm
  go_loopw [7] (fun i wr => ∃ (k : Nat) (q : Int) (st' : Option (List UInt8)), k ≤ 4 ∧ q + 1 = (k : Int) ∧ i = .int .i64 q ∧ WrV wr base b p st' ∧ (Kept base b w wr ∧ Fr b w wr) ∧ pRaw st' (Wm.be m k) = pRaw st (Wm.be m 4) ∧ Short st' (800000000 + (4 - k))) (fun i _ => (intOf i + 1).toNat)
  case atStart => exact ⟨4, 3, st, by omega, by omega, rfl, h, ⟨Kept.refl _ _ _, Fr.refl _ _⟩, rfl, hlen⟩
  case round =>
    obtain ⟨k, q, st', hk, hq, rfl, hw, hkept, hst, hsh⟩ := hrel
    have Hst : Hid (pRaw st' (Wm.be m k) = pRaw st (Wm.be m 4)) := hst
    clear hst
    cases k with
    | zero =>
      obtain rfl : q = -1 := by omega
      clear hq
      go_wp2
      go_end0
      have e := Hst.out
      rw [Wm.be, pRaw_nil] at e
      rw [← Hm.out, ← e]
      exact ⟨rfl, hw, hkept⟩
    | succ j =>
      obtain rfl : q = (j : Int) := by omega
      clear hq
      have hle := hw.le
      go_wp2_with (go_at_call 41; refine (put_v base b p st' ⟨wr.heap.size, 0, none⟩ 1 1 [UInt8.ofNat (m / 256 ^ j)] _ (hw.alloc _) rfl (one_cell wr _ _ (byte_at m j)) (fun l hl => by have := hsh l hl; omega) (by omega)).mono ?_; rintro e w' ⟨rfl, hw', hk', hf'⟩)
      go_roundw
      case rel => exact ⟨j, (j : Int) - 1, pRaw st' [UInt8.ofNat (m / 256 ^ j)], by omega, by omega, rfl, hw', ⟨(hkept.1.alloc hle _).trans hk', (hkept.2.alloc _).trans hf'⟩, pRaw_step _ _ _ _ _ Hst.out, fun l hl => by have := short_step _ _ _ hsh l hl; omega⟩
      case measure => simp [intOf]

theorem wnum_3 (base b : Nat) (p : Value) (st : Option (List UInt8)) (n : Nat) (w : World) (h : WrV w base b p st) (ht : Tab w) (h1 : 1073741823 < n) (h2 : n ≤ 4611686018427387903) (hlen : Short st 800000000) :
    Calls Tryd.prog 30 #[p, .int .i64 n] w fun e w' => e = .returned (.tuple #[]) ∧ WrV w' base b p (pRaw st (Wm.be (13835058055282163712 + n) 8)) ∧ Kept base b w w' ∧ Fr b w w' := by
  have c0 := ht.c0
  have c1 := ht.c1
  have c2 := ht.c2
  have c3 := ht.c3
  have g0 : 63 < n := by omega
  have g1 : 16383 < n := by omega
  go_enter Tryd.func30, Tryd.ntmps30
  go_wp2
  refine wp_loop_rounds 4 ?_; rw [rounds_succ]
  go_wp2
  rw [rounds_succ]
  go_wp2
  rw [rounds_succ]
  go_wp2
  rw [rounds_succ]
  go_wp2
  rw [mark3 n h2]
  obtain ⟨m, hm⟩ : ∃ m : Nat, m = 13835058055282163712 + n := ⟨_, rfl⟩
  rw [← hm]
  have hm64 : m < 18446744073709551616 := by omega
  have Hm : Hid (m = 13835058055282163712 + n) := hm
  clear hm
  go_loopw [7] (fun i wr => ∃ (k : Nat) (q : Int) (st' : Option (List UInt8)), k ≤ 8 ∧ q + 1 = (k : Int) ∧ i = .int .i64 q ∧ WrV wr base b p st' ∧ (Kept base b w wr ∧ Fr b w wr) ∧ pRaw st' (Wm.be m k) = pRaw st (Wm.be m 8) ∧ Short st' (800000000 + (8 - k))) (fun i _ => (intOf i + 1).toNat)
  case atStart => exact ⟨8, 7, st, by omega, by omega, rfl, h, ⟨Kept.refl _ _ _, Fr.refl _ _⟩, rfl, hlen⟩
  case round =>
    obtain ⟨k, q, st', hk, hq, rfl, hw, hkept, hst, hsh⟩ := hrel
    have Hst : Hid (pRaw st' (Wm.be m k) = pRaw st (Wm.be m 8)) := hst
    clear hst
    cases k with
    | zero =>
      obtain rfl : q = -1 := by omega
      clear hq
      go_wp2
      go_end0
      have e := Hst.out
      rw [Wm.be, pRaw_nil] at e
      rw [← Hm.out, ← e]
      exact ⟨rfl, hw, hkept⟩
    | succ j =>
      obtain rfl : q = (j : Int) := by omega
      clear hq
      have hle := hw.le
      go_wp2_with (go_at_call 41; refine (put_v base b p st' ⟨wr.heap.size, 0, none⟩ 1 1 [UInt8.ofNat (m / 256 ^ j)] _ (hw.alloc _) rfl (one_cell wr _ _ (byte_at m j)) (fun l hl => by have := hsh l hl; omega) (by omega)).mono ?_; rintro e w' ⟨rfl, hw', hk', hf'⟩)
      go_roundw
      case rel => exact ⟨j, (j : Int) - 1, pRaw st' [UInt8.ofNat (m / 256 ^ j)], by omega, by omega, rfl, hw', ⟨(hkept.1.alloc hle _).trans hk', (hkept.2.alloc _).trans hf'⟩, pRaw_step _ _ _ _ _ Hst.out, fun l hl => by have := short_step _ _ _ hsh l hl; omega⟩
      case measure => simp [intOf]

theorem wnum_f (base b : Nat) (p : Value) (st : Option (List UInt8)) (n : Int) (w : World) (h : WrV w base b p st) (ht : Tab w) (hlen : Short st 800000000) :
    Calls Tryd.prog 30 #[p, .int .i64 n] w fun e w' => e = .returned (.tuple #[]) ∧ WrV w' base b p (pNum st n) ∧ Kept base b w w' ∧ Fr b w w' := by
  by_cases hn : 0 ≤ n ∧ n ≤ 4611686018427387903
  · obtain ⟨m, rfl⟩ := Int.eq_ofNat_of_zero_le hn.1
    have hm : m ≤ 4611686018427387903 := by omega
    have e : pNum st (m : Int) = pRaw st (Wm.enc m) := by rw [pNum, if_pos hn, Int.toNat_natCast]; rfl
    rw [e]
    unfold Wm.enc
    by_cases h1 : m < 64
    · rw [if_pos h1]
      have := wnum_0 base b p st m w h ht (by omega) hlen
      rwa [Nat.zero_add] at this
    · rw [if_neg h1]
      by_cases h2 : m < 16384
      · rw [if_pos h2]; exact wnum_1 base b p st m w h ht (by omega) (by omega) hlen
      · rw [if_neg h2]
        by_cases h3 : m < 1073741824
        · rw [if_pos h3]; exact wnum_2 base b p st m w h ht (by omega) (by omega) hlen
        · rw [if_neg h3]; exact wnum_3 base b p st m w h ht (by omega) hm hlen
  · have e : pNum st n = none := by rw [pNum, if_neg hn]
    rw [e]
    exact wnum_bad base b p st n w h (by omega)

theorem wnum_v (base b : Nat) (p : Value) (st : Option (List UInt8)) (n : Int) (w : World) (h : WrV w base b p st) (ht : Tab w) (hlen : Short st 800000000) :
    Calls Tryd.prog 30 #[p, .int .i64 n] w fun e w' => e = .returned (.tuple #[]) ∧ WrV w' base b p (pNum st n) ∧ Kept base b w w' :=
  (wnum_f base b p st n w h ht hlen).mono fun _ _ ⟨h1, h2, h3, _⟩ => ⟨h1, h2, h3⟩

end Go.Proofs.YtbpcmfnfjbnloaaDoor
