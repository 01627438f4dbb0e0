/-
  Plain lists and numbers: how a number stands as bytes (1, 2, 4 or 8 of them, the two highest bits of the first telling how many), and how it is read back. No program is named here.
-/
namespace Go.Proofs.Ytohichignjjleaa.Wm

/-- The k lowest bytes of m, the highest first. -/
def be (m : Nat) : Nat → List UInt8
  | 0 => []
  | k + 1 => UInt8.ofNat (m / 256 ^ k) :: be m k

/-- A number's bytes. -/
def enc (n : Nat) : List UInt8 :=
  if n < 64 then be n 1 else if n < 16384 then be (16384 + n) 2 else if n < 1073741824 then be (2147483648 + n) 4 else be (13835058055282163712 + n) 8

/-- What bytes behind a number make of it. -/
def valOf (acc : Nat) (l : List UInt8) : Nat := l.foldl (fun n b => n * 256 + b.toNat) acc

/-- The greatest number of each of the four lengths. -/
def bnd : Nat → Nat
  | 0 => 63
  | 1 => 16383
  | 2 => 1073741823
  | _ => 4611686018427387903

/-- How many bytes stand behind the first. -/
def more (f : UInt8) : Nat := 2 ^ (f.toNat / 64) - 1

/-- The number whose first byte is f, the others t. -/
def nval (f : UInt8) (t : List UInt8) : Nat := valOf (f.toNat % 64) (t.take (more f))

/-- Is it more than what a shorter form holds? -/
def least (f : UInt8) (t : List UInt8) : Bool := decide (f.toNat / 64 = 0 ∨ bnd (f.toNat / 64 - 1) < nval f t)

/-- What a call answers, what is left, the error behind it. -/
structure Got (α : Type) where
  val : α
  left : List UInt8
  err : Int

/-- A number: at most 'most'. -/
def rNum (l : List UInt8) (most : Int) : Got Int :=
  match l with
  | [] => ⟨0, [], 2⟩
  | f :: t => if t.length < more f then ⟨0, [], 2⟩ else if least f t = false then ⟨0, [], 3⟩ else if most < nval f t then ⟨0, [], 5⟩ else ⟨nval f t, t.drop (more f), 0⟩

/-- So many bytes. -/
def rRaw (l : List UInt8) (n : Nat) : Got (List UInt8) := if l.length < n then ⟨[], [], 2⟩ else ⟨l.take n, l.drop n, 0⟩

/-- A text. -/
def rText (l : List UInt8) (most : Int) : Got (List UInt8) :=
  if (rNum l (min most 65536)).err = 0 then rRaw (rNum l (min most 65536)).left (rNum l (min most 65536)).val.toNat else ⟨[], [], (rNum l (min most 65536)).err⟩

/-- A flag. -/
def rFlag (l : List UInt8) : Got Bool :=
  match l with
  | [] => ⟨false, [], 2⟩
  | f :: t => if 1 < f.toNat then ⟨false, [], 3⟩ else ⟨f.toNat == 1, t, 0⟩

end Go.Proofs.Ytohichignjjleaa.Wm
