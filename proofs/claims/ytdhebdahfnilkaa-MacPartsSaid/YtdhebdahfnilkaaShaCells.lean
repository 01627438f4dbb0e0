/-
  Words as cells; the text with what stands behind it; facts about the types.
-/
import Derived.Test.YtdhebdahfnilkaaShaWords
import Derived.Test.YtdhebdahfnilkaaBuf
namespace Go.Proofs.Ytdhebdahfnilkaa
open Go.RowKit

theorem shaInfo40 : (Try.prog.info? 51).map (·.size) = some 64 := by kernel_rfl
theorem shaInfo44 : (Try.prog.info? 53).map (·.size) = some 8 := by kernel_rfl
theorem heap_alloc2_last (w : World) (o1 o2 : Obj) : ((w.alloc o1).alloc o2).heap[w.heap.size + 1]? = some o2 := by
  have := heap_new (w.alloc o1) o2
  rwa [show (w.alloc o1).heap.size = w.heap.size + 1 from by simp] at this

theorem shaInfo5 : (Try.prog.info? 5).map (fun i => (i.zero, i.size, i.bytes)) = some (some (.int .u8 0), 1, 1) := by kernel_rfl
theorem sha_u8 : ∃ i, Try.prog.info? 5 = some i ∧ i.zero = some (.int .u8 0) ∧ i.size = 1 ∧ i.bytes = 1 := by
  have h := shaInfo5
  rw [Option.map_eq_some_iff] at h
  obtain ⟨i, h1, h2⟩ := h
  simp only [Prod.mk.injEq] at h2
  exact ⟨i, h1, h2.1, h2.2.1, h2.2.2⟩
/-- How long a slice is. -/
def slen : Value → Nat
  | .slice _ n _ => n
  | _ => 0
/-- A text, the byte 80, so many zeros; then so many bytes of its length. -/
def padTo (l : List UInt8) (j : Nat) : List UInt8 := l ++ [128] ++ List.replicate j (0 : UInt8)
def padLen (l : List UInt8) (i : Nat) : List UInt8 := padTo l (Sm.zeros l.length) ++ (Sm.be8 (8 * l.length)).take i
theorem padTo_zero (l : List UInt8) : l ++ [128] = padTo l 0 := by simp [padTo]
theorem padTo_more (l : List UInt8) (j : Nat) : padTo l j ++ [0] = padTo l (j + 1) := by
  rw [padTo, padTo, List.append_assoc _ _ [0], List.replicate_succ']
theorem padTo_length (l : List UInt8) (j : Nat) : (padTo l j).length = l.length + 1 + j := by simp [padTo]; omega
theorem padLen_zero (l : List UInt8) : padTo l (Sm.zeros l.length) = padLen l 0 := by simp [padLen]
theorem be8_length (n : Nat) : (Sm.be8 n).length = 8 := by simp [Sm.be8]
theorem padLen_more (l : List UInt8) (i : Nat) (hi : i < 8) : padLen l i ++ [UInt8.ofNat (8 * l.length / 256 ^ (7 - i))] = padLen l (i + 1) := by
  have h8 : i < (Sm.be8 (8 * l.length)).length := by rw [be8_length]; exact hi
  rw [padLen, padLen, List.append_assoc, List.take_succ_eq_append_getElem h8]
  congr 3
  simp [Sm.be8]
theorem padLen_length (l : List UInt8) (i : Nat) (hi : i ≤ 8) : (padLen l i).length = l.length + 1 + Sm.zeros l.length + i := by
  rw [padLen, List.length_append, padTo_length, List.length_take, be8_length]
  omega
theorem padLen_all (l : List UInt8) : padLen l 8 = Sm.pad l := by
  rw [padLen, List.take_of_length_le (by rw [be8_length]; exact Nat.le_refl _), padTo, Sm.pad]
theorem two56 (i : Nat) (hi : i < 8) : 2 ^ (56 - 8 * i) = 256 ^ (7 - i) := by
  rw [show (256 : Nat) = 2 ^ 8 by decide, ← Nat.pow_mul]
  congr 1
  omega
theorem lenbyte (n j : Nat) (hj : j < 8) : (n : Int) * 8 / 2 ^ (56 - 8 * j) % 256 = (((UInt8.ofNat (8 * n / 256 ^ (7 - j))).toNat : Nat) : Int) := by
  rw [UInt8.toNat_ofNat', ← two56 j hj, Nat.mul_comm 8 n]
  simp
/-- Words as cells; the first words laid, zeros behind. -/
def wcells (l : List UInt32) : List Value := l.map w32
def wrow (l : List UInt32) : List Value := wcells l ++ List.replicate (64 - l.length) (Value.int .u32 0)
theorem wcells_length (l : List UInt32) : (wcells l).length = l.length := by simp [wcells]
theorem wrow_length (l : List UInt32) (h : l.length ≤ 64) : (wrow l).length = 64 := by rw [wrow, List.length_append, wcells_length, List.length_replicate]; omega
theorem wcells_all (l : List UInt32) : (wcells l).toArray.all (·.oneCell') = true := by
  rw [Array.all_eq_true_iff_forall_mem]
  intro v hv
  rw [List.mem_toArray, wcells, List.mem_map] at hv
  obtain ⟨c, _, rfl⟩ := hv
  rfl
theorem wcells_at (l : List UInt32) (i : Nat) (hi : i < l.length) : (wcells l)[i]? = some (w32 (l.getD i 0)) := by
  simp [wcells, List.getD_eq_getElem?_getD, hi]
theorem wrow_at (l : List UInt32) (i : Nat) (hi : i < l.length) : (wrow l)[i]? = some (w32 (l.getD i 0)) := by
  rw [wrow, List.getElem?_append_left (by rw [wcells_length]; exact hi), wcells_at l i hi]
theorem cells_get {w : World} {b : Nat} {cs : List Value} {t : TypeId} (h : w.heap[b]? = some (.cells cs.toArray t (0, 0))) {j : Nat} {v : Value} (hv : cs[j]? = some v) : w.cell? ⟨b, j, none⟩ = some v := by
  simp [World.cell?, h, hv]
theorem wrow_set (l : List UInt32) (x : UInt32) (h : l.length < 64) : (wrow l).set l.length (w32 x) = wrow (l ++ [x]) := by
  unfold wrow
  have e : 64 - l.length = (64 - (l ++ [x]).length) + 1 := by rw [List.length_append, List.length_singleton]; omega
  rw [List.set_append_right _ _ (by rw [wcells_length]; exact Nat.le_refl _), wcells_length, Nat.sub_self, e, List.replicate_succ, List.set_cons_zero]
  simp [wcells]
theorem stcells_init : #[Value.int IntKind.u32 1779033703, Value.int IntKind.u32 3144134277, Value.int IntKind.u32 1013904242, Value.int IntKind.u32 2773480762, Value.int IntKind.u32 1359893119, Value.int IntKind.u32 2600822924, Value.int IntKind.u32 528734635, Value.int IntKind.u32 1541459225] = (wcells Sm.init.list).toArray := rfl
/-- Sixty-four zeros. -/
def zeros64 : Array Value := #[Value.int IntKind.u32 0, Value.int IntKind.u32 0, Value.int IntKind.u32 0, Value.int IntKind.u32 0, Value.int IntKind.u32 0, Value.int IntKind.u32 0, Value.int IntKind.u32 0, Value.int IntKind.u32 0, Value.int IntKind.u32 0, Value.int IntKind.u32 0, Value.int IntKind.u32 0, Value.int IntKind.u32 0, Value.int IntKind.u32 0, Value.int IntKind.u32 0, Value.int IntKind.u32 0, Value.int IntKind.u32 0, Value.int IntKind.u32 0, Value.int IntKind.u32 0, Value.int IntKind.u32 0, Value.int IntKind.u32 0, Value.int IntKind.u32 0, Value.int IntKind.u32 0, Value.int IntKind.u32 0, Value.int IntKind.u32 0, Value.int IntKind.u32 0, Value.int IntKind.u32 0, Value.int IntKind.u32 0, Value.int IntKind.u32 0, Value.int IntKind.u32 0, Value.int IntKind.u32 0, Value.int IntKind.u32 0, Value.int IntKind.u32 0, Value.int IntKind.u32 0, Value.int IntKind.u32 0, Value.int IntKind.u32 0, Value.int IntKind.u32 0, Value.int IntKind.u32 0, Value.int IntKind.u32 0, Value.int IntKind.u32 0, Value.int IntKind.u32 0, Value.int IntKind.u32 0, Value.int IntKind.u32 0, Value.int IntKind.u32 0, Value.int IntKind.u32 0, Value.int IntKind.u32 0, Value.int IntKind.u32 0, Value.int IntKind.u32 0, Value.int IntKind.u32 0, Value.int IntKind.u32 0, Value.int IntKind.u32 0, Value.int IntKind.u32 0, Value.int IntKind.u32 0, Value.int IntKind.u32 0, Value.int IntKind.u32 0, Value.int IntKind.u32 0, Value.int IntKind.u32 0, Value.int IntKind.u32 0, Value.int IntKind.u32 0, Value.int IntKind.u32 0, Value.int IntKind.u32 0, Value.int IntKind.u32 0, Value.int IntKind.u32 0, Value.int IntKind.u32 0, Value.int IntKind.u32 0]
theorem zeros64_eq : #[Value.int IntKind.u32 0, Value.int IntKind.u32 0, Value.int IntKind.u32 0, Value.int IntKind.u32 0, Value.int IntKind.u32 0, Value.int IntKind.u32 0, Value.int IntKind.u32 0, Value.int IntKind.u32 0, Value.int IntKind.u32 0, Value.int IntKind.u32 0, Value.int IntKind.u32 0, Value.int IntKind.u32 0, Value.int IntKind.u32 0, Value.int IntKind.u32 0, Value.int IntKind.u32 0, Value.int IntKind.u32 0, Value.int IntKind.u32 0, Value.int IntKind.u32 0, Value.int IntKind.u32 0, Value.int IntKind.u32 0, Value.int IntKind.u32 0, Value.int IntKind.u32 0, Value.int IntKind.u32 0, Value.int IntKind.u32 0, Value.int IntKind.u32 0, Value.int IntKind.u32 0, Value.int IntKind.u32 0, Value.int IntKind.u32 0, Value.int IntKind.u32 0, Value.int IntKind.u32 0, Value.int IntKind.u32 0, Value.int IntKind.u32 0, Value.int IntKind.u32 0, Value.int IntKind.u32 0, Value.int IntKind.u32 0, Value.int IntKind.u32 0, Value.int IntKind.u32 0, Value.int IntKind.u32 0, Value.int IntKind.u32 0, Value.int IntKind.u32 0, Value.int IntKind.u32 0, Value.int IntKind.u32 0, Value.int IntKind.u32 0, Value.int IntKind.u32 0, Value.int IntKind.u32 0, Value.int IntKind.u32 0, Value.int IntKind.u32 0, Value.int IntKind.u32 0, Value.int IntKind.u32 0, Value.int IntKind.u32 0, Value.int IntKind.u32 0, Value.int IntKind.u32 0, Value.int IntKind.u32 0, Value.int IntKind.u32 0, Value.int IntKind.u32 0, Value.int IntKind.u32 0, Value.int IntKind.u32 0, Value.int IntKind.u32 0, Value.int IntKind.u32 0, Value.int IntKind.u32 0, Value.int IntKind.u32 0, Value.int IntKind.u32 0, Value.int IntKind.u32 0, Value.int IntKind.u32 0] = zeros64 := rfl

/-- The words of the rounds, as cells. -/
def kcells : Array Value := (Sm.K.map w32).toArray

theorem wrow_nil : zeros64 = (wrow []).toArray := rfl


/-! ## What the rounds make of words. -/
theorem not32 (x : UInt32) : bits .xor .u32 (if IntKind.u32.signed = true then -1 else IntKind.u32.max) (x.toNat : Int) = ((~~~x).toNat : Int) := by
  have e1 : (if IntKind.u32.signed = true then -1 else IntKind.u32.max) = (((4294967295 : UInt32).toNat : Nat) : Int) := by decide
  rw [e1, w32_xor]
  congr 2
theorem t1_val (A B C D E F G I k w : UInt32) : ((((I.toNat : Int) + bits .xor .u32 (bits .xor .u32 ((Sm.rotr E 6).toNat : Int) ((Sm.rotr E 11).toNat : Int)) ((Sm.rotr E 25).toNat : Int) + bits .xor .u32 (bits .and .u32 (E.toNat : Int) (F.toNat : Int)) (bits .and .u32 (bits .xor .u32 (if IntKind.u32.signed = true then -1 else IntKind.u32.max) (E.toNat : Int)) (G.toNat : Int)) + (k.toNat : Int)) % 4294967296 + (w.toNat : Int)) % 4294967296) = ((Sm.t1 ⟨A, B, C, D, E, F, G, I⟩ k w).toNat : Int) := by
  rw [w32_xor, w32_xor, w32_and, not32, w32_and, w32_xor]
  unfold Sm.t1 Sm.big1 Sm.cho
  dsimp only
  generalize (Sm.rotr E 6 ^^^ Sm.rotr E 11 ^^^ Sm.rotr E 25) = X
  generalize (E &&& F ^^^ ~~~E &&& G) = Y
  rw [← w32_add, ← w32_add, ← w32_add, ← w32_add]
  omega
theorem t2_val (A B C D E F G I : UInt32) : ((bits .xor .u32 (bits .xor .u32 ((Sm.rotr A 2).toNat : Int) ((Sm.rotr A 13).toNat : Int)) ((Sm.rotr A 22).toNat : Int) + bits .xor .u32 (bits .xor .u32 (bits .and .u32 (A.toNat : Int) (B.toNat : Int)) (bits .and .u32 (A.toNat : Int) (C.toNat : Int))) (bits .and .u32 (B.toNat : Int) (C.toNat : Int))) % 4294967296) = ((Sm.t2 ⟨A, B, C, D, E, F, G, I⟩).toNat : Int) := by
  rw [w32_xor, w32_xor, w32_and, w32_and, w32_and, w32_xor, w32_xor]
  unfold Sm.t2 Sm.big0 Sm.maj
  dsimp only
  rw [← w32_add]

end Go.Proofs.Ytdhebdahfnilkaa
