/-
  Words in the model's spelling: what its operations make of words of 32 bits. The document's own 'turned' and 'word'.
-/
import Derived.Test.YtdhebdahfnilkaaProg
import Derived.Test.YtdhebdahfnilkaaMem
import Derived.Test.YtdhebdahfnilkaaShaMath
import Derived.Laws.BitsAllLaws
import Derived.BigQuiet
import Derived.Lib.Hide
namespace Go.Proofs.Ytdhebdahfnilkaa
open Go.RowKit

/-- A word as a value. -/
def w32 (x : UInt32) : Value := .int .u32 (x.toNat : Int)

theorem w32_or (a b : Nat) (ha : a < 4294967296) (hb : b < 4294967296) : bits .or .u32 (a : Int) (b : Int) = (((UInt32.ofNat (a ||| b)).toNat : Nat) : Int) := by
  rw [u32_or_nat a b ha hb, UInt32.toNat_ofNat']
  congr 1
  exact (Nat.mod_eq_of_lt (Nat.or_lt_two_pow (n := 32) ha hb)).symm
theorem w32_xor (x y : UInt32) : bits .xor .u32 (x.toNat : Int) (y.toNat : Int) = ((x ^^^ y).toNat : Int) := by
  rw [u32_xor_nat _ _ x.toNat_lt y.toNat_lt, UInt32.toNat_xor]
theorem w32_and (x y : UInt32) : bits .and .u32 (x.toNat : Int) (y.toNat : Int) = ((x &&& y).toNat : Int) := by
  rw [u32_and_nat _ _ x.toNat_lt y.toNat_lt, UInt32.toNat_and]
theorem w32_add (x y : UInt32) : ((x.toNat : Int) + (y.toNat : Int)) % 4294967296 = ((x + y).toNat : Int) := by
  rw [UInt32.toNat_add]
  omega
theorem w32_shr (x : UInt32) (n : Nat) (m : Int) (hm : m = ((2 ^ n : Nat) : Int)) : (x.toNat : Int) / m = ((Sm.shr x n).toNat : Int) := by
  rw [Sm.shr_toNat, hm]
  rfl
theorem w32_shr3 (x : UInt32) : (x.toNat : Int) / 8 = ((Sm.shr x 3).toNat : Int) := w32_shr x 3 8 rfl
theorem w32_shr10 (x : UInt32) : (x.toNat : Int) / 1024 = ((Sm.shr x 10).toNat : Int) := w32_shr x 10 1024 rfl

theorem turned_calls (x : UInt32) (n : Nat) (h1 : 1 ≤ n) (h2 : n ≤ 31) (w : World) : Calls Try.prog 26 #[w32 x, .int .u64 n] w fun e w' => e = .returned (w32 (Sm.rotr x n)) ∧ w' = w := by
  have hlt := x.toNat_lt
  have hq : bits BinOp.or IntKind.u32 ((x.toNat : Int) / 2 ^ n) ((x.toNat : Int) * 2 ^ (32 - n) % 4294967296) = ((Sm.rotr x n).toNat : Int) := by
    have := w32_or (x.toNat / 2 ^ n) (x.toNat * 2 ^ (32 - n) % 4294967296) (Nat.lt_of_le_of_lt (Nat.div_le_self _ _) hlt) (Nat.mod_lt _ (by decide))
    rw [Sm.rotr, ← this]
    simp
  have Hq := Lib.hid hq
  clear hq
  unfold w32
  go_enter Try.func26, Try.ntmps26
  go_wp2
  rw [Hq.out]
  go_ret
  exact ⟨rfl, rfl⟩

theorem word_or (a b c d : Nat) (ha : a < 256) (hb : b < 256) (hc : c < 256) (hd : d < 256) :
    bits .or .u32 (bits .or .u32 (bits .or .u32 ((a : Int) * 16777216) ((b : Int) * 65536)) ((c : Int) * 256)) (d : Int) = ((a * 16777216 + b * 65536 + c * 256 + d : Nat) : Int) := by
  have e1 : bits .or .u32 ((a : Int) * 16777216) ((b : Int) * 65536) = ((a * 16777216 + b * 65536 : Nat) : Int) := by
    rw [show (a : Int) * 16777216 = ((a * 16777216 : Nat) : Int) by omega, show (b : Int) * 65536 = ((b * 65536 : Nat) : Int) by omega, u32_or_nat _ _ (by omega) (by omega)]
    rw [nat_join 24 _ _ (by omega) (by omega)]
  rw [e1, show (c : Int) * 256 = ((c * 256 : Nat) : Int) by omega, u32_or_nat _ _ (by omega) (by omega), nat_join 16 _ _ (by omega) (by omega), u32_or_nat _ _ (by omega) (by omega), nat_join 8 _ _ (by omega) (by omega)]

theorem word_calls (l : List UInt8) (g cap i : Nat) (w : World) (hi : i + 4 ≤ l.length) (hl : l.length ≤ 1000000) (hcell : ∀ j (hj : j < l.length), w.cell? ⟨g, j, none⟩ = some (.int .u8 (l[j]).toNat)) :
    Calls Try.prog 25 #[.slice (some ⟨g, 0, none⟩) l.length cap, .int .i64 i] w fun e w' => e = .returned (w32 (Sm.word l i)) ∧ ∃ n, w' = w.drewN n := by
  have c0 := hcell i (by omega)
  have c1 := hcell (i + 1) (by omega)
  have c2 := hcell (i + 2) (by omega)
  have c3 := hcell (i + 3) (by omega)
  have b0 := (l[i]'(by omega)).toNat_lt
  have b1 := (l[i + 1]'(by omega)).toNat_lt
  have b2 := (l[i + 2]'(by omega)).toNat_lt
  have b3 := (l[i + 3]'(by omega)).toNat_lt
  have hq := word_or _ _ _ _ b0 b1 b2 b3
  have hw : Value.int .u32 (((l[i]'(by omega)).toNat * 16777216 + (l[i + 1]'(by omega)).toNat * 65536 + (l[i + 2]'(by omega)).toNat * 256 + (l[i + 3]'(by omega)).toNat : Nat) : Int) = w32 (Sm.word l i) := by
    rw [w32, Sm.word, UInt32.toNat_ofNat', Nat.mod_eq_of_lt]
    · simp only [List.getD_eq_getElem?_getD, List.getElem?_eq_getElem (show i < l.length by omega), List.getElem?_eq_getElem (show i + 1 < l.length by omega), List.getElem?_eq_getElem (show i + 2 < l.length by omega), List.getElem?_eq_getElem (show i + 3 < l.length by omega), Option.getD_some]
    · simp only [List.getD_eq_getElem?_getD, List.getElem?_eq_getElem (show i < l.length by omega), List.getElem?_eq_getElem (show i + 1 < l.length by omega), List.getElem?_eq_getElem (show i + 2 < l.length by omega), List.getElem?_eq_getElem (show i + 3 < l.length by omega), Option.getD_some]
      omega
  have Hq := Lib.hid hq
  have Hw := Lib.hid hw
  clear hcell hq hw
  go_enter Try.func25, Try.ntmps25
  go_wp2_with fail
  go_quiet (fail)
  go_wp2
  rw [Hq.out, Hw.out]
  go_ret
  exact ⟨rfl, nq, rfl⟩

end Go.Proofs.Ytdhebdahfnilkaa
