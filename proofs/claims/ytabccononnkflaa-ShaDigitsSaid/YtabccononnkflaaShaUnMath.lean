/-
  Signs as lists: which bytes are signs, what two signs are.
-/
import Derived.Test.YtabccononnkflaaShaHexF
import Derived.Lib.Bytealg
namespace Go.Proofs.Ytabccononnkflaa
open Go.RowKit

def signsL : List UInt8 := [48, 49, 50, 51, 52, 53, 54, 55, 56, 57, 97, 98, 99, 100, 101, 102]
def isSign (c : UInt8) : Bool := (decide (48 ≤ c.toNat) && decide (c.toNat ≤ 57)) || (decide (97 ≤ c.toNat) && decide (c.toNat ≤ 102))
/-- Which sign is it? -/
def signAt (c : UInt8) : Int := Lib.indexByte signsL c
theorem sign_table : ∀ n : Fin 256, (isSign (UInt8.ofNat n.val) = false ∧ signAt (UInt8.ofNat n.val) = -1) ∨ (isSign (UInt8.ofNat n.val) = true ∧ 0 ≤ signAt (UInt8.ofNat n.val) ∧ signAt (UInt8.ofNat n.val) < 16 ∧ Sm.sign (signAt (UInt8.ofNat n.val)).toNat = UInt8.ofNat n.val) := by decide +kernel
theorem sign_cases (c : UInt8) : (isSign c = false ∧ signAt c = -1) ∨ ∃ d : Nat, isSign c = true ∧ signAt c = (d : Int) ∧ d < 16 ∧ Sm.sign d = c := by
  have h := sign_table ⟨c.toNat, c.toNat_lt⟩
  rw [show UInt8.ofNat (⟨c.toNat, c.toNat_lt⟩ : Fin 256).val = c from UInt8.ofNat_toNat] at h
  rcases h with h | ⟨h1, h2, h3, h4⟩
  · exact .inl h
  · obtain ⟨d, hd⟩ := Int.eq_ofNat_of_zero_le h2
    rw [hd] at h3 h4
    exact .inr ⟨d, h1, hd, by omega, h4⟩
theorem join_table : ∀ a b : Fin 16, bits .or .i64 ((a.val : Int) * 16) (b.val : Int) = (a.val : Int) * 16 + (b.val : Int) ∧ (UInt8.ofNat (a.val * 16 + b.val)).toNat / 16 = a.val ∧ (UInt8.ofNat (a.val * 16 + b.val)).toNat % 16 = b.val := by decide +kernel
theorem join_or (a b : Nat) (ha : a < 16) (hb : b < 16) : bits .or .i64 ((a : Int) * 16) (b : Int) = (a : Int) * 16 + (b : Int) := (join_table ⟨a, ha⟩ ⟨b, hb⟩).1
theorem hex_join (l : List UInt8) (a b : Nat) (ha : a < 16) (hb : b < 16) : Sm.hex (l ++ [UInt8.ofNat (a * 16 + b)]) = Sm.hex l ++ [Sm.sign a, Sm.sign b] := by
  have h := join_table ⟨a, ha⟩ ⟨b, hb⟩
  rw [Sm.hex, Sm.hex, List.flatMap_append]
  simp only [List.flatMap_cons, List.flatMap_nil, List.append_nil]
  rw [h.2.1, h.2.2]
/-- Byte n of a text. -/
theorem byte_at {P : Program} (w : World) (t : TypeId) (ht : P.underlying t = some .string) (s : ByteArray) (n : Nat) (h : n < s.data.toList.length) (x : Int) (hx : x = (n : Int)) : (Instr.index t (.string s) (.int .i64 x)).run P w = .ok (.int .u8 ((s.data.toList[n]).toNat : Int)) w := by
  have hs : s.data.toList.length = s.size := by simp
  rw [run_index_string w t s .i64 x ht, dif_pos (by omega)]
  have e : x.toNat = n := by omega
  congr 3
  simp only [e]
  rfl

end Go.Proofs.Ytabccononnkflaa
