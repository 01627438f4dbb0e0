/-
  A thing that is put, as the statements have it: what the document says its bytes are, and the law's own function 'put' over a writer that may be nil.
-/
import Derived.Test.YtdnnccnicaoniaaDoorWireAwake
import Derived.Deep.MidRow

namespace Go.Proofs.YtdnnccnicaoniaaDoor
open Go.RowKit

/-- A thing: its kind, number, text, digest, flag. -/
structure Th where
  kind : Nat
  n : Int
  s : ByteArray
  h : List UInt8
  b : Bool
/-- It is one that can be read. -/
structure Th.Ok (t : Th) : Prop where
  kind : t.kind < 256
  s : t.s.size ≤ 9223372036854775807
  h : t.h.length = 32
/-- Its cells. -/
def Th.cells (t : Th) : List Value := .int .u8 t.kind :: .int .i64 t.n :: .string t.s :: (bcells t.h ++ [.bool t.b])
/-- Its bytes, if it can be put. -/
def Th.bytes (t : Th) : Option (List UInt8) :=
  if t.kind % 4 = 0 then (if 0 ≤ t.n ∧ t.n ≤ 4611686018427387903 then some (Wm.enc t.n.toNat) else none)
  else if t.kind % 4 = 1 then (if t.s.size ≤ 65536 then some (Wm.enc t.s.size ++ t.s.data.toList) else none)
  else if t.kind % 4 = 2 then some t.h else some [if t.b then 1 else 0]
/-- What putting it makes of a writer's bytes. -/
def pTh (st : Option (List UInt8)) (t : Th) : Option (List UInt8) := t.bytes.bind fun x => st.map (· ++ x)

theorem Th.cells_length (t : Th) (h : t.Ok) : t.cells.length = 36 := by
  simp [Th.cells, bcells_length, h.h]
theorem Th.cell0 (t : Th) : t.cells.toArray[0]? = some (.int .u8 t.kind) := by simp [Th.cells]
theorem Th.cell1 (t : Th) : t.cells.toArray[1]? = some (.int .i64 t.n) := by simp [Th.cells]
theorem Th.cell2 (t : Th) : t.cells.toArray[2]? = some (.string t.s) := by simp [Th.cells]
theorem Th.cellB (t : Th) (h : t.Ok) : t.cells.toArray[35]? = some (.bool t.b) := by
  have e : (bcells t.h).length = 32 := by rw [bcells_length, h.h]
  simp only [Th.cells, List.getElem?_toArray]
  rw [show (35 : Nat) = 32 + 3 from rfl]
  simp only [List.getElem?_cons_succ]
  rw [List.getElem?_append_right (by omega), e]
  rfl
theorem Th.cellH (t : Th) (j : Nat) (v : Value) (hv : (bcells t.h)[j]? = some v) : t.cells.toArray[3 + j]? = some v := by
  have hj : j < (bcells t.h).length := (List.getElem?_eq_some_iff.1 hv).1
  simp only [Th.cells, List.getElem?_toArray]
  rw [Nat.add_comm]
  simp only [List.getElem?_cons_succ]
  rw [List.getElem?_append_left hj, hv]

theorem Th.bytes_le (t : Th) (h : t.Ok) (l : List UInt8) (hl : t.bytes = some l) : l.length ≤ 65544 := by
  unfold Th.bytes at hl
  split at hl
  · split at hl
    · cases hl; have := Wm.enc_length_le t.n.toNat; omega
    · cases hl
  · split at hl
    · split at hl
      · cases hl
        have := Wm.enc_length_le t.s.size
        rw [List.length_append]
        have e : t.s.data.toList.length = t.s.size := by simp
        omega
      · cases hl
    · split at hl
      · cases hl; rw [h.h]; omega
      · cases hl; simp
theorem short_th (st : Option (List UInt8)) (t : Th) (ht : t.Ok) (k : Nat) (h : Short st k) : Short (pTh st t) (k + 65544) := by
  intro l hl
  unfold pTh at hl
  cases hb : t.bytes with
  | none => rw [hb] at hl; cases hl
  | some x =>
    rw [hb] at hl
    have := t.bytes_le ht x hb
    have := short_raw st x k h l hl
    omega

/-- What 'put' answers. -/
def PutPost (w : World) (base b : Nat) (p : Value) (st : Option (List UInt8)) (t : Th) (e : Ending) (w' : World) : Prop :=
  e = .returned (.tuple #[.string (str (t.bytes.getD [])), .bool t.bytes.isSome]) ∧ WrV w' base b p (pTh st t) ∧ Kept base b w w'

theorem WrV.kept2 {w w' : World} {base b : Nat} {p : Value} {st : Option (List UInt8)} (h : WrV w base b p st) (k : Kept w.heap.size w.heap.size w w') : WrV w' base b p st := by
  rcases h with ⟨h1, h2, h3, h4⟩ | ⟨h1, h⟩
  · exact .inl ⟨h1, h2, Nat.le_trans h3 k.size, h4⟩
  · exact .inr ⟨h1, h.same k.size (k.block b (by have := h.lt; have := h.le; omega) (by have := h.lt; have := h.le; omega)) (fun i _ hi => k.block i hi (by omega))⟩

end Go.Proofs.YtdnnccnicaoniaaDoor
