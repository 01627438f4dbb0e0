/-
  Codes under a key as functions of lists: the key's 64 bytes, the code, a number's four bytes, keys of keys, rows of bytes.
-/
import Derived.Test.YtdhebdahfnilkaaShaPart
namespace Go.Proofs.Ytdhebdahfnilkaa
namespace Mc

/-- The key, or its digest, with noughts behind it: 64 bytes. -/
def short (key : List UInt8) : List UInt8 := if 64 < key.length then Sm.sum key else key
def filled (key : List UInt8) : List UInt8 := short key ++ List.replicate (64 - (short key).length) 0
/-- Each byte put exclusively with x. -/
def put (x : UInt8) (l : List UInt8) : List UInt8 := l.map fun b => b ^^^ x
def under (f text : List UInt8) : List UInt8 := Sm.sum (put 92 f ++ Sm.sum (put 54 f ++ text))
def code (key text : List UInt8) : List UInt8 := under (filled key) text
def four (n : Nat) : List UInt8 := [UInt8.ofNat (n / 16777216), UInt8.ofNat (n / 65536), UInt8.ofNat (n / 256), UInt8.ofNat n]
def derive (key label context : List UInt8) : List UInt8 := code key (four label.length ++ label ++ context)
/-- The codes of 0 to k - 1, one behind the other; the first n bytes of the row. -/
def row (key : List UInt8) : Nat → List UInt8
  | 0 => []
  | k + 1 => row key k ++ code key (four k)
def stream (key : List UInt8) (n : Nat) : List UInt8 := (row key ((n + 31) / 32)).take n

theorem short_length (key : List UInt8) : (short key).length ≤ 64 := by
  unfold short
  split
  · rw [sum_length]; decide
  · omega
theorem filled_length (key : List UInt8) : (filled key).length = 64 := by
  have := short_length key
  rw [filled, List.length_append, List.length_replicate]
  omega
theorem put_length (x : UInt8) (l : List UInt8) : (put x l).length = l.length := by simp [put]
theorem under_length (f t : List UInt8) : (under f t).length = 32 := sum_length _
theorem code_length (k t : List UInt8) : (code k t).length = 32 := sum_length _
theorem four_length (n : Nat) : (four n).length = 4 := rfl
theorem derive_length (k l c : List UInt8) : (derive k l c).length = 32 := sum_length _
theorem row_length (key : List UInt8) : ∀ k, (row key k).length = 32 * k
  | 0 => rfl
  | k + 1 => by rw [row, List.length_append, row_length key k, code_length]; omega
theorem row_append (key : List UInt8) (k : Nat) : ∀ d, ∃ r, row key (k + d) = row key k ++ r
  | 0 => ⟨[], by simp⟩
  | d + 1 => by
    obtain ⟨r, h⟩ := row_append key k d
    exact ⟨r ++ code key (four (k + d)), by rw [← Nat.add_assoc, row, h, List.append_assoc]⟩
/-- Whatever row is long enough begins so. -/
theorem row_take (key : List UInt8) (n k : Nat) (h : n ≤ 32 * k) : (row key k).take n = stream key n := by
  have hk : (n + 31) / 32 ≤ k := by omega
  obtain ⟨r, hr⟩ := row_append key ((n + 31) / 32) (k - (n + 31) / 32)
  rw [show (n + 31) / 32 + (k - (n + 31) / 32) = k by omega] at hr
  rw [hr, List.take_append_of_le_length (by rw [row_length]; omega), stream]
theorem stream_length (key : List UInt8) (n : Nat) : (stream key n).length = n := by
  rw [stream, List.length_take, row_length]
  omega
theorem stream_take (key : List UInt8) (n k : Nat) (h : k ≤ n) : (stream key n).take k = stream key k := by
  rw [stream, List.take_take, Nat.min_eq_left h, row_take key k _ (by omega)]
theorem stream_zero (key : List UInt8) : stream key 0 = [] := by simp [stream]

/-- The document's example. -/
def jefe : List UInt8 := [74, 101, 102, 101]
def nothing : List UInt8 := [119, 104, 97, 116, 32, 100, 111, 32, 121, 97, 32, 119, 97, 110, 116, 32] ++ [102, 111, 114, 32, 110, 111, 116, 104, 105, 110, 103, 63]
def said : List UInt8 := [53, 98, 100, 99, 99, 49, 52, 54, 98, 102, 54, 48, 55, 53, 52, 101, 54, 97, 48, 52, 50, 52, 50, 54, 48, 56, 57, 53, 55, 53, 99, 55, 53, 97, 48, 48, 51, 102, 48, 56, 57, 100, 50, 55, 51, 57, 56, 51, 57, 100, 101, 99, 53, 56, 98, 57, 54, 52, 101, 99, 51, 56, 52, 51]
set_option maxRecDepth 100000 in
theorem awake : Sm.hex (code jefe nothing) = said := by decide +kernel

end Mc
end Go.Proofs.Ytdhebdahfnilkaa
