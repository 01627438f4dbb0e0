/-
  Memory: what stays behind a call that writes one block and new ones alone; a block of two cells; rows of cells; bytes as cells; strings. No function of the program is named here.
-/
import Derived.WalkKit
import Derived.Deep.Draws
import Derived.Deep.WholeRow
namespace Go.Proofs.Ythhplmgpgnajbaa
open Go.RowKit

/-- Below block number 'base' nothing but block b has turned. (b = base: nothing at all.) -/
structure Kept (base b : Nat) (w w' : World) : Prop where
  os : w'.os = w.os
  tape : w'.tape = w.tape
  output : w'.output = w.output
  size : w.heap.size ≤ w'.heap.size
  block : ∀ k, k < base → k ≠ b → w'.heap[k]? = w.heap[k]?

theorem Kept.refl (base b : Nat) (w : World) : Kept base b w w := ⟨rfl, rfl, rfl, Nat.le_refl _, fun _ _ _ => rfl⟩
theorem Kept.trans {base b : Nat} {w1 w2 w3 : World} (h : Kept base b w1 w2) (k : Kept base b w2 w3) : Kept base b w1 w3 :=
  ⟨k.os.trans h.os, k.tape.trans h.tape, k.output.trans h.output, Nat.le_trans h.size k.size, fun i hi hb => (k.block i hi hb).trans (h.block i hi hb)⟩
theorem Kept.drew {base b : Nat} {w1 w : World} (h : Kept base b w1 w) : Kept base b w1 w.drew := ⟨h.os, h.tape, h.output, h.size, h.block⟩
theorem Kept.drewN {base b : Nat} {w1 w : World} (h : Kept base b w1 w) (n : Nat) : Kept base b w1 (w.drewN n) := ⟨h.os, h.tape, h.output, h.size, h.block⟩
theorem Kept.mono {base b base' b' : Nat} {w w' : World} (h : Kept base b w w') (h1 : base' ≤ base) (h2 : ∀ k, k < base' → k ≠ b' → k ≠ b) : Kept base' b' w w' :=
  ⟨h.os, h.tape, h.output, h.size, fun k hk hb => h.block k (Nat.lt_of_lt_of_le hk h1) (h2 k hk hb)⟩
theorem Kept.alloc {base b : Nat} {w1 w : World} (h : Kept base b w1 w) (hB : base ≤ w.heap.size) (o : Obj) : Kept base b w1 (w.alloc o) :=
  h.trans ⟨rfl, rfl, rfl, by simp, fun k hk _ => Below.heap_alloc _ _ _ (by omega)⟩
theorem Kept.setCell {base b : Nat} {w1 w : World} (h : Kept base b w1 w) {p : Addr} (hp : p.block = b ∨ base ≤ p.block) (u : Value) : Kept base b w1 (w.setCell p u) :=
  h.trans ⟨rfl, rfl, rfl, by simp [World.setCell], fun k hk hb => Below.heap_setCell _ _ _ _ (by omega)⟩
theorem Kept.set {base b : Nat} {w1 w : World} (h : Kept base b w1 w) {b' : Nat} (hp : b' = b ∨ base ≤ b') (o : Nat) (u : Value) : Kept base b w1 (w.setCell ⟨b', o, none⟩ u) := h.setCell hp u
theorem Kept.grown {base b : Nat} {w1 w w2 : World} {row : Option Nat} (h : Kept base b w1 w) (hg : w.grownBy w2 row) (hB : base ≤ w.heap.size) (hr : ∀ k, row = some k → base ≤ k) : Kept base b w1 w2 :=
  h.trans ⟨hg.os, hg.tape, hg.output, hg.size, fun k hk _ => hg.block k (by omega) (fun e => by have := hr k e.symm; omega)⟩
theorem Kept.below {base b B : Nat} {w w' : World} (h : Kept base b w w') (h1 : B ≤ base) (h2 : B ≤ b) : Below B w w' :=
  ⟨h.os, h.tape, h.output, h.size, fun k hk => h.block k (by omega) (by omega)⟩
theorem Kept.ofBelow {base b B : Nat} {w w' : World} (h : Below B w w') (h1 : base ≤ B) : Kept base b w w' :=
  ⟨h.os, h.tape, h.output, h.size, fun k hk _ => h.block k (by omega)⟩
theorem Kept.cell {base b : Nat} {w w' : World} (h : Kept base b w w') {p : Addr} (hp : p.block < base) (hb : p.block ≠ b) : w'.cell? p = w.cell? p := World.cell?_of_block (w := w) (h.block p.block hp hb)
theorem Kept.frozen {base b : Nat} {w w' : World} (h : Kept base b w w') {p : Addr} (hp : p.block < base) (hb : p.block ≠ b) : w'.frozen? p = w.frozen? p := World.frozen?_of_block (w := w) (h.block p.block hp hb)

/-- What is neither block b nor a row of bytes has not turned. -/
def Fr (b : Nat) (w w' : World) : Prop := ∀ k o, w.heap[k]? = some o → k ≠ b → (∀ cs fr, o ≠ .cells cs 5 fr) → w'.heap[k]? = some o
theorem Fr.refl (b : Nat) (w : World) : Fr b w w := fun _ _ h _ _ => h
theorem Fr.trans {b : Nat} {w1 w2 w3 : World} (h : Fr b w1 w2) (k : Fr b w2 w3) : Fr b w1 w3 := fun i o h1 h2 h3 => k i o (h i o h1 h2 h3) h2 h3
theorem Fr.alloc {b : Nat} {w1 w : World} (h : Fr b w1 w) (o : Obj) : Fr b w1 (w.alloc o) := fun i x h1 h2 h3 => by
  have h4 := h i x h1 h2 h3
  rw [Below.heap_alloc _ _ _ (lt_of_block h4)]
  exact h4
theorem Fr.drew {b : Nat} {w1 w : World} (h : Fr b w1 w) : Fr b w1 w.drew := h
theorem Fr.set {b : Nat} {w1 w : World} (h : Fr b w1 w) (o : Nat) (u : Value) : Fr b w1 (w.setCell ⟨b, o, none⟩ u) := fun i x h1 h2 h3 => by
  rw [Below.heap_setCell _ _ _ _ h2]
  exact h i x h1 h2 h3
theorem Fr.grown {b : Nat} {w1 w w2 : World} {base n : Nat} {v : Value} {xs : List Value} (h : Fr b w1 w) (hown : w.ownsRow base 5 1 v n xs) (hg : w.grownBy w2 v.ownBlock) : Fr b w1 w2 := fun i x h1 h2 h3 => by
  have h4 := h i x h1 h2 h3
  rw [hg.block i (lt_of_block h4) (fun e => ?_)]
  · exact h4
  · rcases hown.2 with ⟨rfl, _⟩ | ⟨g, cap, cur, rfl, _, hh, _⟩
    · simp [Value.ownBlock] at e
    · simp [Value.ownBlock] at e
      subst e
      rw [hh] at h4
      cases h4
      exact h3 _ _ rfl

/-! ## A block of two cells. -/
theorem two_cell0 {w : World} {b : Nat} {x y : Value} {t : TypeId} (h : w.heap[b]? = some (.cells #[x, y] t (0, 0))) : w.cell? ⟨b, 0, none⟩ = some x := by simp [World.cell?, h]
theorem two_cell1 {w : World} {b : Nat} {x y : Value} {t : TypeId} (h : w.heap[b]? = some (.cells #[x, y] t (0, 0))) : w.cell? ⟨b, 1, none⟩ = some y := by simp [World.cell?, h]
theorem two_free {w : World} {b : Nat} {x y : Value} {t : TypeId} (h : w.heap[b]? = some (.cells #[x, y] t (0, 0))) (j : Nat) : w.frozen? ⟨b, j, none⟩ = false := by simp [World.frozen?, h]
theorem two_set0 {w : World} {b : Nat} {x y u : Value} {t : TypeId} (h : w.heap[b]? = some (.cells #[x, y] t (0, 0))) : (w.setCell ⟨b, 0, none⟩ u).heap[b]? = some (.cells #[u, y] t (0, 0)) := by
  have hlt := lt_of_block h
  have h' : w.heap[b] = .cells #[x, y] t (0, 0) := by simpa [Array.getElem?_eq_getElem hlt] using h
  show (w.heap.modify b _)[b]? = _
  rw [Array.getElem?_eq_getElem (by simpa using hlt), Array.getElem_modify_self, h']
  rfl
theorem two_set1 {w : World} {b : Nat} {x y u : Value} {t : TypeId} (h : w.heap[b]? = some (.cells #[x, y] t (0, 0))) : (w.setCell ⟨b, 1, none⟩ u).heap[b]? = some (.cells #[x, u] t (0, 0)) := by
  have hlt := lt_of_block h
  have h' : w.heap[b] = .cells #[x, y] t (0, 0) := by simpa [Array.getElem?_eq_getElem hlt] using h
  show (w.heap.modify b _)[b]? = _
  rw [Array.getElem?_eq_getElem (by simpa using hlt), Array.getElem_modify_self, h']
  rfl
theorem heap_new (w : World) (o : Obj) : (w.alloc o).heap[w.heap.size]? = some o := by
  show (w.heap.push o)[w.heap.size]? = _
  simp

/-! ## Bytes as cells. -/
def bcells (l : List UInt8) : List Value := l.map fun c => Value.int .u8 c.toNat
theorem bcells_length (l : List UInt8) : (bcells l).length = l.length := by simp [bcells]
theorem bcells_append (a b : List UInt8) : bcells (a ++ b) = bcells a ++ bcells b := by simp [bcells]
theorem bcells_one (l : List UInt8) : ∀ u ∈ bcells l, u.oneCell' = true := by
  intro u hu
  simp only [bcells, List.mem_map] at hu
  obtain ⟨c, _, rfl⟩ := hu
  rfl
theorem bcells_get (l : List UInt8) (j : Nat) (hj : j < l.length) : (bcells l)[j]? = some (.int .u8 (l[j]).toNat) := by simp [bcells, hj]
/-- A string of given bytes. -/
abbrev str (l : List UInt8) : ByteArray := ⟨l.toArray⟩

theorem Kept.out {base b : Nat} {w w1 w2 : World} (h : Kept w.heap.size w.heap.size w w1) (k : Kept base b w1 w2) (h1 : w.heap.size ≤ base) (h2 : w.heap.size ≤ b) : Kept w.heap.size w.heap.size w w2 :=
  h.trans (k.mono h1 (fun k hk _ => by omega))
theorem k4_of {c : Nat} {w w1 w2 : World} (k1 : Kept w.heap.size c w w1) (k : Kept w1.heap.size c w1 w2) : Kept w.heap.size c w1 w2 := k.mono k1.size (fun _ _ h => h)
theorem cells_set {w : World} {b : Nat} {cs : List Value} {t : TypeId} (h : w.heap[b]? = some (.cells cs.toArray t (0, 0))) (j : Nat) (u : Value) : (w.setCell ⟨b, j, none⟩ u).heap[b]? = some (.cells (cs.set j u).toArray t (0, 0)) := by
  have hlt := lt_of_block h
  have h' : w.heap[b] = .cells cs.toArray t (0, 0) := by simpa [Array.getElem?_eq_getElem hlt] using h
  show (w.heap.modify b _)[b]? = _
  rw [Array.getElem?_eq_getElem (by simpa using hlt), Array.getElem_modify_self, h']
  simp
theorem cells_at {w : World} {b : Nat} {cs : List Value} {t : TypeId} (h : w.heap[b]? = some (.cells cs.toArray t (0, 0))) (j : Nat) (hj : j < cs.length) : w.cell? ⟨b, j, none⟩ = some (cs[j]) := by
  simp [World.cell?, h, hj]
theorem cells_free {w : World} {b : Nat} {cs : List Value} {t : TypeId} (h : w.heap[b]? = some (.cells cs.toArray t (0, 0))) (j : Nat) : w.frozen? ⟨b, j, none⟩ = false := by simp [World.frozen?, h]
theorem setCell_other (w : World) (b j : Nat) (u : Value) (k : Nat) (hk : k ≠ b) : (w.setCell ⟨b, j, none⟩ u).heap[k]? = w.heap[k]? := by
  simp only [World.setCell, Array.getElem?_modify]
  rw [if_neg (fun h => hk h.symm)]
theorem bcells_all (l : List UInt8) : (bcells l).toArray.all (·.oneCell') = true := by
  rw [Array.all_eq_true_iff_forall_mem]
  intro v hv
  exact bcells_one l v (by simpa using hv)
theorem str_append (a b : List UInt8) : str a ++ str b = str (a ++ b) := by
  apply ByteArray.ext
  simp [ByteArray.data_append]
theorem str_of (s : ByteArray) : str s.data.toList = s := by
  apply ByteArray.ext
  simp
theorem str_size (l : List UInt8) : (str l).size = l.length := by simp [ByteArray.size]
theorem str_take (l : List UInt8) (n : Nat) : (str l).extract 0 n = str (l.take n) := by
  apply ByteArray.ext
  simp [ByteArray.data_extract]
theorem str_drop (l : List UInt8) (n : Nat) : (str l).extract n (str l).size = str (l.drop n) := by
  apply ByteArray.ext
  simp [ByteArray.data_extract, ByteArray.size]
  exact List.take_of_length_le (by simp)
theorem str_data_of (l : List UInt8) : (str l).data.toList = l := rfl
theorem str_at (l : List UInt8) (j : Nat) (h : j < (str l).size) (h2 : j < l.length) : (str l)[j]'h = l[j] := rfl
/-- Thirty-two zeros. -/
def zeros32 : Array Value := (bcells (List.replicate 32 0)).toArray
theorem zeros32_eq : #[Value.int IntKind.u8 0, Value.int IntKind.u8 0, Value.int IntKind.u8 0, Value.int IntKind.u8 0, Value.int IntKind.u8 0, Value.int IntKind.u8 0, Value.int IntKind.u8 0, Value.int IntKind.u8 0, Value.int IntKind.u8 0, Value.int IntKind.u8 0, Value.int IntKind.u8 0, Value.int IntKind.u8 0, Value.int IntKind.u8 0, Value.int IntKind.u8 0, Value.int IntKind.u8 0, Value.int IntKind.u8 0, Value.int IntKind.u8 0, Value.int IntKind.u8 0, Value.int IntKind.u8 0, Value.int IntKind.u8 0, Value.int IntKind.u8 0, Value.int IntKind.u8 0, Value.int IntKind.u8 0, Value.int IntKind.u8 0, Value.int IntKind.u8 0, Value.int IntKind.u8 0, Value.int IntKind.u8 0, Value.int IntKind.u8 0, Value.int IntKind.u8 0, Value.int IntKind.u8 0, Value.int IntKind.u8 0, Value.int IntKind.u8 0] = zeros32 := rfl
theorem zeros32_size : zeros32.size = 32 := rfl
theorem zeros32_all : zeros32.all (·.oneCell') = true := bcells_all _
/-- A value laid into a block that has just been made. -/
theorem store_new {P : Program} (w : World) (t : TypeId) (z cs : Array Value) (hz : z.size = cs.size) (h1 : cs.all (·.oneCell') = true) : (storeCells ⟨w.heap.size, 0, none⟩ cs.toList).run P (w.alloc (.cells z t)) = .ok () (w.alloc (.cells cs t)) := by
  have := run_storeCells_from (P := P) w.heap.size t cs.toList 0 z (w.alloc (.cells z t)) (heap_new w _) (by simp; omega) (fun v hv => (Array.all_eq_true_iff_forall_mem.1 h1) v (by simpa using hv))
  rw [this]
  congr 1
  rw [← World.setRow_alloc_new w z cs t]
  simp
theorem heap_alloc2_last (w : World) (o1 o2 : Obj) : ((w.alloc o1).alloc o2).heap[w.heap.size + 1]? = some o2 := by
  have := heap_new (w.alloc o1) o2
  rwa [show (w.alloc o1).heap.size = w.heap.size + 1 from by simp] at this
theorem cells_get {w : World} {b : Nat} {cs : List Value} {t : TypeId} (h : w.heap[b]? = some (.cells cs.toArray t (0, 0))) {j : Nat} {v : Value} (hv : cs[j]? = some v) : w.cell? ⟨b, j, none⟩ = some v := by
  simp [World.cell?, h, hv]

end Go.Proofs.Ythhplmgpgnajbaa
