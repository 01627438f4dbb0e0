/-
  The standard's digest as a function of lists: words, blocks, rounds, padding, signs.
-/
namespace Go.Proofs.Ytdhebdahfnilkaa
namespace Sm

/-- x turned right by n; x moved right by n. -/
def rotr (x : UInt32) (n : Nat) : UInt32 := UInt32.ofNat (x.toNat / 2 ^ n ||| x.toNat * 2 ^ (32 - n) % 4294967296)
def shr (x : UInt32) (n : Nat) : UInt32 := UInt32.ofNat (x.toNat / 2 ^ n)

def sig0 (x : UInt32) : UInt32 := rotr x 7 ^^^ rotr x 18 ^^^ shr x 3
def sig1 (x : UInt32) : UInt32 := rotr x 17 ^^^ rotr x 19 ^^^ shr x 10
def big0 (a : UInt32) : UInt32 := rotr a 2 ^^^ rotr a 13 ^^^ rotr a 22
def big1 (e : UInt32) : UInt32 := rotr e 6 ^^^ rotr e 11 ^^^ rotr e 25
def cho (e f g : UInt32) : UInt32 := (e &&& f) ^^^ (~~~e &&& g)
def maj (a b c : UInt32) : UInt32 := (a &&& b) ^^^ (a &&& c) ^^^ (b &&& c)

def K : List UInt32 := [
  0x428a2f98, 0x71374491, 0xb5c0fbcf, 0xe9b5dba5, 0x3956c25b, 0x59f111f1, 0x923f82a4, 0xab1c5ed5,
  0xd807aa98, 0x12835b01, 0x243185be, 0x550c7dc3, 0x72be5d74, 0x80deb1fe, 0x9bdc06a7, 0xc19bf174,
  0xe49b69c1, 0xefbe4786, 0x0fc19dc6, 0x240ca1cc, 0x2de92c6f, 0x4a7484aa, 0x5cb0a9dc, 0x76f988da,
  0x983e5152, 0xa831c66d, 0xb00327c8, 0xbf597fc7, 0xc6e00bf3, 0xd5a79147, 0x06ca6351, 0x14292967,
  0x27b70a85, 0x2e1b2138, 0x4d2c6dfc, 0x53380d13, 0x650a7354, 0x766a0abb, 0x81c2c92e, 0x92722c85,
  0xa2bfe8a1, 0xa81a664b, 0xc24b8b70, 0xc76c51a3, 0xd192e819, 0xd6990624, 0xf40e3585, 0x106aa070,
  0x19a4c116, 0x1e376c08, 0x2748774c, 0x34b0bcb5, 0x391c0cb3, 0x4ed8aa4a, 0x5b9cca4f, 0x682e6ff3,
  0x748f82ee, 0x78a5636f, 0x84c87814, 0x8cc70208, 0x90befffa, 0xa4506ceb, 0xbef9a3f7, 0xc67178f2]

/-- The state: eight words. -/
structure St where
  a : UInt32
  b : UInt32
  c : UInt32
  d : UInt32
  e : UInt32
  f : UInt32
  g : UInt32
  h : UInt32
def St.list (s : St) : List UInt32 := [s.a, s.b, s.c, s.d, s.e, s.f, s.g, s.h]
def init : St := ⟨0x6a09e667, 0xbb67ae85, 0x3c6ef372, 0xa54ff53a, 0x510e527f, 0x9b05688c, 0x1f83d9ab, 0x5be0cd19⟩

/-- Four bytes, the highest first. -/
def word (l : List UInt8) (i : Nat) : UInt32 :=
  UInt32.ofNat ((l.getD i 0).toNat * 16777216 + (l.getD (i + 1) 0).toNat * 65536 + (l.getD (i + 2) 0).toNat * 256 + (l.getD (i + 3) 0).toNat)
/-- The first j words of the block that begins at 'at'. -/
def first (l : List UInt8) (at0 : Nat) : Nat → List UInt32
  | 0 => []
  | j + 1 => first l at0 j ++ [word l (at0 + 4 * j)]
/-- One word more. -/
def ext (w : List UInt32) : List UInt32 :=
  w ++ [w.getD (w.length - 16) 0 + w.getD (w.length - 7) 0 + sig0 (w.getD (w.length - 15) 0) + sig1 (w.getD (w.length - 2) 0)]
def exts (w : List UInt32) : Nat → List UInt32
  | 0 => w
  | j + 1 => ext (exts w j)
def sched (l : List UInt8) (at0 : Nat) : List UInt32 := exts (first l at0 16) 48

/-- A round. -/
def t1 (s : St) (k w : UInt32) : UInt32 := s.h + big1 s.e + cho s.e s.f s.g + k + w
def t2 (s : St) : UInt32 := big0 s.a + maj s.a s.b s.c
def step (s : St) (k w : UInt32) : St := ⟨t1 s k w + t2 s, s.a, s.b, s.c, s.d + t1 s k w, s.e, s.f, s.g⟩
def rounds (w : List UInt32) (s : St) : Nat → St
  | 0 => s
  | j + 1 => step (rounds w s j) (K.getD j 0) (w.getD j 0)
def plus (v s : St) : St := ⟨v.a + s.a, v.b + s.b, v.c + s.c, v.d + s.d, v.e + s.e, v.f + s.f, v.g + s.g, v.h + s.h⟩
def block (l : List UInt8) (at0 : Nat) (v : St) : St := plus v (rounds (sched l at0) v 64)
def blocks (l : List UInt8) : Nat → St
  | 0 => init
  | j + 1 => block l (64 * j) (blocks l j)

/-- The number of zeros behind the byte 80; the text with what stands behind it. -/
def zeros (n : Nat) : Nat := (119 - n % 64) % 64
def be8 (n : Nat) : List UInt8 := (List.range 8).map fun i => UInt8.ofNat (n / 256 ^ (7 - i))
def pad (l : List UInt8) : List UInt8 := l ++ [128] ++ List.replicate (zeros l.length) 0 ++ be8 (8 * l.length)
def bytes4 (x : UInt32) : List UInt8 := (List.range 4).map fun i => UInt8.ofNat (x.toNat / 256 ^ (3 - i))
def sum (l : List UInt8) : List UInt8 := ((blocks (pad l) ((pad l).length / 64)).list).flatMap bytes4

/-- Signs. -/
def sign (d : Nat) : UInt8 := if d < 10 then UInt8.ofNat (48 + d) else UInt8.ofNat (87 + d)
def hex (l : List UInt8) : List UInt8 := l.flatMap fun b => [sign (b.toNat / 16), sign (b.toNat % 16)]

/-- The document's example. -/
def abc : List UInt8 := [0x62, 0x61, 0x37, 0x38, 0x31, 0x36, 0x62, 0x66, 0x38, 0x66, 0x30, 0x31, 0x63, 0x66, 0x65, 0x61, 0x34, 0x31, 0x34, 0x31, 0x34, 0x30, 0x64, 0x65, 0x35, 0x64, 0x61, 0x65, 0x32, 0x32, 0x32, 0x33,
  0x62, 0x30, 0x30, 0x33, 0x36, 0x31, 0x61, 0x33, 0x39, 0x36, 0x31, 0x37, 0x37, 0x61, 0x39, 0x63, 0x62, 0x34, 0x31, 0x30, 0x66, 0x66, 0x36, 0x31, 0x66, 0x32, 0x30, 0x30, 0x31, 0x35, 0x61, 0x64]
set_option maxRecDepth 100000 in
theorem awake : hex (sum [97, 98, 99]) = abc := by decide +kernel

theorem rotr_toNat (x : UInt32) (n : Nat) : (rotr x n).toNat = x.toNat / 2 ^ n ||| x.toNat * 2 ^ (32 - n) % 4294967296 := by
  have h := x.toNat_lt
  have h1 : x.toNat / 2 ^ n < 2 ^ 32 := Nat.lt_of_le_of_lt (Nat.div_le_self _ _) h
  have h2 : x.toNat * 2 ^ (32 - n) % 4294967296 < 2 ^ 32 := Nat.mod_lt _ (by decide)
  rw [rotr, UInt32.toNat_ofNat']
  exact Nat.mod_eq_of_lt (Nat.or_lt_two_pow h1 h2)
theorem shr_toNat (x : UInt32) (n : Nat) : (shr x n).toNat = x.toNat / 2 ^ n := by
  have h := x.toNat_lt
  rw [shr, UInt32.toNat_ofNat']
  exact Nat.mod_eq_of_lt (Nat.lt_of_le_of_lt (Nat.div_le_self _ _) h)
theorem first_length (l : List UInt8) (a : Nat) : ∀ j, (first l a j).length = j
  | 0 => rfl
  | j + 1 => by rw [first, List.length_append, first_length l a j]; rfl
theorem ext_length (w : List UInt32) : (ext w).length = w.length + 1 := by simp [ext]
theorem exts_length (w : List UInt32) : ∀ j, (exts w j).length = w.length + j
  | 0 => rfl
  | j + 1 => by rw [exts, ext_length, exts_length w j]; omega
theorem sched_length (l : List UInt8) (a : Nat) : (sched l a).length = 64 := by rw [sched, exts_length, first_length]
theorem pad_length (l : List UInt8) : (pad l).length = l.length + 1 + zeros l.length + 8 := by simp [pad, be8]; omega
theorem pad_mod (l : List UInt8) : (pad l).length % 64 = 0 := by rw [pad_length, zeros]; omega

end Sm
end Go.Proofs.Ytdhebdahfnilkaa
