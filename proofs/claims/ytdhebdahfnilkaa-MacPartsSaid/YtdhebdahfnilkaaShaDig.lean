/-
  What the landed digester holds, as cells: eight words, the rounds' words, a block, how many bytes wait in it, how many came in.
-/
import Derived.Test.YtdhebdahfnilkaaShaCells
import Derived.Laws.PanicsMore
namespace Go.Proofs.Ytdhebdahfnilkaa
open Go.RowKit

/-- The cells of a digester. -/
def digCells (st : List UInt32) (blk : List UInt8) (fl n : Int) : List Value := wcells st ++ (wcells Sm.K ++ (bcells blk ++ [.int .i64 fl, .int .u64 n]))
theorem K_length : Sm.K.length = 64 := rfl
theorem dig_state (st : List UInt32) (blk : List UInt8) (fl n : Int) (hs : st.length = 8) (i : Nat) (hi : i < 8) : (digCells st blk fl n)[i]? = some (w32 (st.getD i 0)) := by
  rw [digCells, List.getElem?_append_left (by rw [wcells_length]; omega), wcells_at st i (by omega)]
theorem dig_k (st : List UInt32) (blk : List UInt8) (fl n : Int) (hs : st.length = 8) (i : Nat) (hi : i < 64) : (digCells st blk fl n)[8 + i]? = some (w32 (Sm.K.getD i 0)) := by
  rw [digCells, List.getElem?_append_right (by rw [wcells_length]; omega), wcells_length, hs, show 8 + i - 8 = i by omega, List.getElem?_append_left (by rw [wcells_length, K_length]; omega), wcells_at Sm.K i (by rw [K_length]; omega)]
theorem dig_blk (st : List UInt32) (blk : List UInt8) (fl n : Int) (hs : st.length = 8) (hb : blk.length = 64) (i : Nat) (hi : i < blk.length) : (digCells st blk fl n)[72 + i]? = some (.int .u8 (blk[i]).toNat) := by
  rw [digCells, List.getElem?_append_right (by rw [wcells_length]; omega), wcells_length, hs, List.getElem?_append_right (by rw [wcells_length, K_length]; omega), wcells_length, K_length, show 72 + i - 8 - 64 = i by omega, List.getElem?_append_left (by rw [bcells_length]; omega), bcells_get blk i hi]
theorem dig_fl (st : List UInt32) (blk : List UInt8) (fl n : Int) (hs : st.length = 8) (hb : blk.length = 64) : (digCells st blk fl n)[136]? = some (.int .i64 fl) := by
  rw [digCells, List.getElem?_append_right (by rw [wcells_length]; omega), wcells_length, hs, List.getElem?_append_right (by rw [wcells_length, K_length]; omega), wcells_length, K_length, List.getElem?_append_right (by rw [bcells_length]; omega), bcells_length, hb]
  rfl
theorem dig_n (st : List UInt32) (blk : List UInt8) (fl n : Int) (hs : st.length = 8) (hb : blk.length = 64) : (digCells st blk fl n)[137]? = some (.int .u64 n) := by
  rw [digCells, List.getElem?_append_right (by rw [wcells_length]; omega), wcells_length, hs, List.getElem?_append_right (by rw [wcells_length, K_length]; omega), wcells_length, K_length, List.getElem?_append_right (by rw [bcells_length]; omega), bcells_length, hb]
  rfl
theorem dig_length (st : List UInt32) (blk : List UInt8) (fl n : Int) (hs : st.length = 8) (hb : blk.length = 64) : (digCells st blk fl n).length = 138 := by
  simp only [digCells, List.length_append, wcells_length, bcells_length, K_length, hs, hb]
  rfl
theorem dig_set_state (st : List UInt32) (blk : List UInt8) (fl n : Int) (hs : st.length = 8) (i : Nat) (hi : i < 8) (x : UInt32) : (digCells st blk fl n).set i (w32 x) = digCells (st.set i x) blk fl n := by
  rw [digCells, List.set_append_left _ _ (by rw [wcells_length]; omega), digCells]
  congr 1
  simp [wcells, List.map_set]
theorem dig_set_fl (st : List UInt32) (blk : List UInt8) (fl n x : Int) (hs : st.length = 8) (hb : blk.length = 64) : (digCells st blk fl n).set 136 (.int .i64 x) = digCells st blk x n := by
  rw [digCells, List.set_append_right _ _ (by rw [wcells_length]; omega), wcells_length, hs, List.set_append_right _ _ (by rw [wcells_length, K_length]; omega), wcells_length, K_length, List.set_append_right _ _ (by rw [bcells_length]; omega), bcells_length, hb]
  rfl
theorem dig_set_n (st : List UInt32) (blk : List UInt8) (fl n x : Int) (hs : st.length = 8) (hb : blk.length = 64) : (digCells st blk fl n).set 137 (.int .u64 x) = digCells st blk fl x := by
  rw [digCells, List.set_append_right _ _ (by rw [wcells_length]; omega), wcells_length, hs, List.set_append_right _ _ (by rw [wcells_length, K_length]; omega), wcells_length, K_length, List.set_append_right _ _ (by rw [bcells_length]; omega), bcells_length, hb]
  rfl

/-- Block b of the world is a digester that holds so much. -/
def Dig (w : World) (b : Nat) (st : List UInt32) (blk : List UInt8) (fl n : Int) : Prop := w.heap[b]? = some (.cells (digCells st blk fl n).toArray 59 (0, 0))
theorem Dig.lt {w : World} {b : Nat} {st : List UInt32} {blk : List UInt8} {fl n : Int} (h : Dig w b st blk fl n) : b < w.heap.size := lt_of_block h
theorem Dig.state {w : World} {b : Nat} {st : List UInt32} {blk : List UInt8} {fl n : Int} (h : Dig w b st blk fl n) (hs : st.length = 8) (i : Nat) (hi : i < 8) : w.cell? ⟨b, i, none⟩ = some (w32 (st.getD i 0)) := cells_get h (dig_state st blk fl n hs i hi)
theorem Dig.k {w : World} {b : Nat} {st : List UInt32} {blk : List UInt8} {fl n : Int} (h : Dig w b st blk fl n) (hs : st.length = 8) (i : Nat) (hi : i < 64) : w.cell? ⟨b, 8 + i, none⟩ = some (w32 (Sm.K.getD i 0)) := cells_get h (dig_k st blk fl n hs i hi)
theorem Dig.blk {w : World} {b : Nat} {st : List UInt32} {blk : List UInt8} {fl n : Int} (h : Dig w b st blk fl n) (hs : st.length = 8) (hb : blk.length = 64) (i : Nat) (hi : i < blk.length) : w.cell? ⟨b, 72 + i, none⟩ = some (.int .u8 (blk[i]).toNat) := cells_get h (dig_blk st blk fl n hs hb i hi)
theorem Dig.fl {w : World} {b : Nat} {st : List UInt32} {blk : List UInt8} {fl n : Int} (h : Dig w b st blk fl n) (hs : st.length = 8) (hb : blk.length = 64) : w.cell? ⟨b, 136, none⟩ = some (.int .i64 fl) := cells_get h (dig_fl st blk fl n hs hb)
theorem Dig.n {w : World} {b : Nat} {st : List UInt32} {blk : List UInt8} {fl n : Int} (h : Dig w b st blk fl n) (hs : st.length = 8) (hb : blk.length = 64) : w.cell? ⟨b, 137, none⟩ = some (.int .u64 n) := cells_get h (dig_n st blk fl n hs hb)
theorem Dig.free {w : World} {b : Nat} {st : List UInt32} {blk : List UInt8} {fl n : Int} (h : Dig w b st blk fl n) (i : Nat) : w.frozen? ⟨b, i, none⟩ = false := cells_free h i
theorem Dig.set_state {w : World} {b : Nat} {st : List UInt32} {blk : List UInt8} {fl n : Int} (h : Dig w b st blk fl n) (hs : st.length = 8) (i : Nat) (hi : i < 8) (x : UInt32) : Dig (w.setCell ⟨b, i, none⟩ (w32 x)) b (st.set i x) blk fl n := by
  have := cells_set h i (w32 x)
  rwa [dig_set_state st blk fl n hs i hi x] at this
theorem Dig.set_fl {w : World} {b : Nat} {st : List UInt32} {blk : List UInt8} {fl n : Int} (h : Dig w b st blk fl n) (hs : st.length = 8) (hb : blk.length = 64) (x : Int) : Dig (w.setCell ⟨b, 136, none⟩ (.int .i64 x)) b st blk x n := by
  have := cells_set h 136 (.int .i64 x)
  rwa [dig_set_fl st blk fl n x hs hb] at this
theorem Dig.set_n {w : World} {b : Nat} {st : List UInt32} {blk : List UInt8} {fl n : Int} (h : Dig w b st blk fl n) (hs : st.length = 8) (hb : blk.length = 64) (x : Int) : Dig (w.setCell ⟨b, 137, none⟩ (.int .u64 x)) b st blk fl x := by
  have := cells_set h 137 (.int .u64 x)
  rwa [dig_set_n st blk fl n x hs hb] at this
theorem Dig.same {w w' : World} {b : Nat} {st : List UInt32} {blk : List UInt8} {fl n : Int} (h : Dig w b st blk fl n) (he : w'.heap[b]? = w.heap[b]?) : Dig w' b st blk fl n := he.trans h

/-- An array's value at an index. -/
theorem run_index_arr {P : Program} (w : World) (t e : TypeId) (n : Nat) (cs : Array Value) (k : IntKind) (i : Nat) (x : Value) (h : P.underlying t = some (.array n e)) (hs : (sizeOf e).run P w = .ok 1 w) (ha : (isAgg e).run P w = .ok false w) (hi : i < n) (hx : cs[i]? = some x) :
    (Instr.index t (.agg cs) (.int k (i : Int))).run P w = .ok x w := by
  simp [Instr.index, run_underlying h, asIntOf, hs, ha, hi, go_sem, hx]

/-- The first q of eight words added. -/
def plusTo (v s : List UInt32) (q : Nat) : List UInt32 := (List.range 8).map fun i => if i < q then v.getD i 0 + s.getD i 0 else v.getD i 0
theorem plusTo_length (v s : List UInt32) (q : Nat) : (plusTo v s q).length = 8 := by simp [plusTo]
theorem plusTo_getD (v s : List UInt32) (q i : Nat) (hi : i < 8) : (plusTo v s q).getD i 0 = if i < q then v.getD i 0 + s.getD i 0 else v.getD i 0 := by
  simp [plusTo, List.getD_eq_getElem?_getD, hi]
theorem plusTo_zero (v s : Sm.St) : plusTo v.list s.list 0 = v.list := by
  simp [plusTo, Sm.St.list, List.range, List.range.loop]
theorem plusTo_all (v s : Sm.St) : plusTo v.list s.list 8 = (Sm.plus v s).list := by
  simp [plusTo, Sm.St.list, Sm.plus, List.range, List.range.loop]
theorem plusTo_set (v s : List UInt32) (q : Nat) (hq : q < 8) : (plusTo v s q).set q (v.getD q 0 + s.getD q 0) = plusTo v s (q + 1) := by
  apply List.ext_getElem?
  intro j
  rw [List.getElem?_set]
  by_cases hj : q = j
  · subst hj
    rw [if_pos rfl, if_pos (by rw [plusTo_length]; exact hq)]
    simp [plusTo, hq]
  · rw [if_neg hj]
    by_cases h8 : j < 8
    · simp only [plusTo, List.getElem?_map, List.getElem?_range h8, Option.map_some]
      congr 1
      by_cases h : j < q
      · rw [if_pos h, if_pos (by omega)]
      · rw [if_neg h, if_neg (by omega)]
    · rw [List.getElem?_eq_none (by rw [plusTo_length]; omega), List.getElem?_eq_none (by rw [plusTo_length]; omega)]

end Go.Proofs.Ytdhebdahfnilkaa
