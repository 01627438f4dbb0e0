/-
  The statement PprStays: its walk.
-/
import Derived.Test.YtdnnccnicaoniaaDoorGS

namespace Go.Proofs.YtdnnccnicaoniaaDoor
open Go.RowKit Go.Lib

theorem look_key (bits : Nat) (hb : bits ≤ 32) (L : List Sd) (rb : Nat) (sl : Value) (p : Nat) (hp : p < 2 ^ bits) (k : List UInt8) (hk : Pp.KeyAt bits L p k) (w : World) (hR : RowIs w rb bits sl L) (hG : Pp.Good bits L) (hn : L.length < 1000000) :
    Calls Tryd.prog 11 #[.pointer (some ⟨rb, 0, none⟩), .pointer none, .int .i64 (p : Int)] w fun e w' => e = .returned (.tuple #[.agg (bcells k).toArray, .int .i64 0]) ∧ Kept w.heap.size w.heap.size w w' := by
  refine (row_look bits hb L rb sl p w hR hG hn).mono ?_
  rintro e w' ⟨L', m, er, rfl, ht, kk⟩
  obtain ⟨s, hs, hh, rfl⟩ := hk
  cases ht with
  | out h => omega
  | gone q h1 h2 h3 =>
    obtain rfl : p = q := by omega
    exact absurd hh (h3 s hs)
  | took A B t q h1 h2 h3 h4 =>
    obtain rfl : p = q := by omega
    refine ⟨?_, kk⟩
    rw [Pp.KeyAt.one hG ⟨t, by rw [h3]; simp, h4, rfl⟩ ⟨s, hs, hh, rfl⟩]
theorem look_gone (bits : Nat) (hb : bits ≤ 32) (L : List Sd) (rb : Nat) (sl : Value) (p : Nat) (hp : p < 2 ^ bits) (hk : ∀ s ∈ L, ¬ Pp.Has bits s p) (w : World) (hR : RowIs w rb bits sl L) (hG : Pp.Good bits L) (hn : L.length < 1000000) :
    Calls Tryd.prog 11 #[.pointer (some ⟨rb, 0, none⟩), .pointer none, .int .i64 (p : Int)] w fun e w' => e = .returned (.tuple #[.agg zeros32, .int .i64 10]) ∧ Kept w.heap.size w.heap.size w w' := by
  refine (row_look bits hb L rb sl p w hR hG hn).mono ?_
  rintro e w' ⟨L', m, er, rfl, ht, kk⟩
  cases ht with
  | out h => omega
  | gone q h1 h2 h3 => exact ⟨by rw [zeros_bcells], kk⟩
  | took A B t q h1 h2 h3 h4 =>
    obtain rfl : p = q := by omega
    exact absurd h4 (hk t (by rw [h3]; simp))
theorem gone_key (bits : Nat) (hb : bits ≤ 32) (L : List Sd) (rb : Nat) (sl : Value) (p : Nat) (hp : p < 2 ^ bits) (k : List UInt8) (hk : Pp.KeyAt bits L p k) (w : World) (hR : RowIs w rb bits sl L) (hG : Pp.Good bits L) (hn : L.length < 1000000) :
    Calls Tryd.prog 13 #[.pointer (some ⟨rb, 0, none⟩), .int .i64 (p : Int)] w fun e w' => e = .returned (.bool false) ∧ Kept w.heap.size w.heap.size w w' := by
  refine (row_gone bits hb L rb sl p w hR hG hn).mono ?_
  rintro e w' ⟨L', m, er, rfl, ht, kk⟩
  obtain ⟨s, hs, hh, rfl⟩ := hk
  cases ht with
  | out h => omega
  | gone q h1 h2 h3 =>
    obtain rfl : p = q := by omega
    exact absurd hh (h3 s hs)
  | took A B t q h1 h2 h3 h4 => exact ⟨rfl, kk⟩
theorem gone_gone (bits : Nat) (hb : bits ≤ 32) (L : List Sd) (rb : Nat) (sl : Value) (p : Nat) (hp : p < 2 ^ bits) (hk : ∀ s ∈ L, ¬ Pp.Has bits s p) (w : World) (hR : RowIs w rb bits sl L) (hG : Pp.Good bits L) (hn : L.length < 1000000) :
    Calls Tryd.prog 13 #[.pointer (some ⟨rb, 0, none⟩), .int .i64 (p : Int)] w fun e w' => e = .returned (.bool true) ∧ Kept w.heap.size w.heap.size w w' := by
  refine (row_gone bits hb L rb sl p w hR hG hn).mono ?_
  rintro e w' ⟨L', m, er, rfl, ht, kk⟩
  cases ht with
  | out h => omega
  | gone q h1 h2 h3 => exact ⟨rfl, kk⟩
  | took A B t q h1 h2 h3 h4 =>
    obtain rfl : p = q := by omega
    exact absurd h4 (hk t (by rw [h3]; simp))
theorem root_good (n : Nat) (l : List UInt8) (hl : l.length = 32) : Pp.Good n [⟨0, 0, l⟩] := ⟨fun s hs => by rw [List.mem_singleton.1 hs]; exact ⟨Nat.zero_le _, by show (0 : Nat) < 2 ^ 0; decide, hl⟩, List.pairwise_singleton _ _⟩
theorem root_key (n p : Nat) (hp : p < 2 ^ n) (l : List UInt8) : Pp.KeyAt n [⟨0, 0, l⟩] p (Pp.key (Pp.leaf n p n ⟨0, 0, l⟩).self) :=
  ⟨_, List.mem_singleton.2 rfl, ⟨by simp [Pp.start], by simpa [Pp.stop] using hp⟩, rfl⟩
theorem Kept.row {w w1 w2 : World} {rb : Nat} (h : Kept w.heap.size w.heap.size w w1) (k : Kept w1.heap.size rb w1 w2) (hrb : w.heap.size ≤ rb) : Kept w.heap.size w.heap.size w w2 :=
  h.trans (k.mono h.size (fun _ hi _ => by omega))
theorem Kept.then {w w1 w2 : World} (h : Kept w.heap.size w.heap.size w w1) (k : Kept w1.heap.size w1.heap.size w1 w2) : Kept w.heap.size w.heap.size w w2 :=
  h.trans (k.mono h.size (fun _ hi _ => Nat.ne_of_lt (Nat.lt_of_lt_of_le hi h.size)))
theorem keyD_size {s : List UInt8} (h : s.length = 32) : (bcells s).toArray.size = 32 := by rw [List.size_toArray, bcells_length, h]

theorem u64_wrap (x : Int) : IntKind.u64.wrap x = x % 18446744073709551616 := by
  simp [IntKind.wrap, IntKind.signed, IntKind.bits]
theorem u64_power (b : Int) (_hb0 : 0 ≤ b) : ¬ IntKind.u64.wrap (2 ^ (1 + b % 32).toNat) = 0 := by
  rw [u64_wrap]
  obtain ⟨n, hn⟩ : ∃ n : Nat, 1 + b % 32 = (n : Int) := ⟨(1 + b % 32).toNat, by omega⟩
  have h32 : n ≤ 32 := by omega
  rw [hn, Int.toNat_natCast]
  have h1 := Nat.pow_le_pow_right (n := 2) (by decide) h32
  have h2 := Nat.two_pow_pos n
  have e : ((2 : Int) ^ n) = ((2 ^ n : Nat) : Int) := by simp
  rw [e]
  omega

end Go.Proofs.YtdnnccnicaoniaaDoor
