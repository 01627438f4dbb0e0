/-
  What a digester holds that took in the bytes l: lists alone, then cells; a string copied into a row.
-/
import Derived.Test.YtdhebdahfnilkaaShaDig
import Derived.Laws.CopyRow
import Derived.Laws.CopyOwn
namespace Go.Proofs.Ytdhebdahfnilkaa
open Go.RowKit

/-! ## A block hangs on its own bytes alone. -/
theorem word_congr (l m : List UInt8) (a c : Nat) (h : ∀ i, i < 4 → l.getD (a + i) 0 = m.getD (c + i) 0) : Sm.word l a = Sm.word m c := by
  unfold Sm.word
  rw [h 1 (by decide), h 2 (by decide), h 3 (by decide)]
  have := h 0 (by decide)
  rw [Nat.add_zero, Nat.add_zero] at this
  rw [this]
theorem first_congr (l m : List UInt8) (a c : Nat) : ∀ j, (∀ i, i < 4 * j → l.getD (a + i) 0 = m.getD (c + i) 0) → Sm.first l a j = Sm.first m c j
  | 0, _ => rfl
  | j + 1, h => by
    rw [Sm.first, Sm.first, first_congr l m a c j (fun i hi => h i (by omega)), word_congr l m (a + 4 * j) (c + 4 * j) (fun i hi => by rw [Nat.add_assoc, Nat.add_assoc]; exact h _ (by omega))]
theorem block_congr (l m : List UInt8) (a c : Nat) (v : Sm.St) (h : ∀ i, i < 64 → l.getD (a + i) 0 = m.getD (c + i) 0) : Sm.block l a v = Sm.block m c v := by
  unfold Sm.block Sm.sched
  rw [first_congr l m a c 16 (fun i hi => h i (by omega))]
theorem blocks_append (l m : List UInt8) : ∀ j, 64 * j ≤ l.length → Sm.blocks (l ++ m) j = Sm.blocks l j
  | 0, _ => rfl
  | j + 1, h => by
    rw [Sm.blocks, Sm.blocks, blocks_append l m j (by omega)]
    refine block_congr _ _ _ _ _ fun i hi => ?_
    rw [List.getD_eq_getElem?_getD, List.getD_eq_getElem?_getD, List.getElem?_append_left (by omega)]
theorem blocks_last (l blk : List UInt8) (d : Nat) (_hd : 64 * (d + 1) ≤ l.length) (hb : ∀ i, i < 64 → l.getD (64 * d + i) 0 = blk.getD i 0) : Sm.blocks l (d + 1) = Sm.block blk 0 (Sm.blocks l d) := by
  rw [Sm.blocks]
  refine block_congr _ _ _ _ _ fun i hi => ?_
  rw [Nat.zero_add]
  exact hb i hi

/-- The block with n bytes laid at place o. -/
def laid (blk : List UInt8) (o : Nat) (x : List UInt8) : List UInt8 := blk.take o ++ x ++ blk.drop (o + x.length)
theorem laid_length (blk : List UInt8) (o : Nat) (x : List UInt8) (h : o + x.length ≤ blk.length) : (laid blk o x).length = blk.length := by
  simp only [laid, List.length_append, List.length_take, List.length_drop]
  omega
theorem dig_laid (st : List UInt32) (blk : List UInt8) (fl n : Int) (hs : st.length = 8) (o : Nat) (x : List UInt8) (h : o + x.length ≤ blk.length) :
    (digCells st blk fl n).take (72 + o) ++ bcells x ++ (digCells st blk fl n).drop (72 + o + x.length) = digCells st (laid blk o x) fl n := by
  have e1 : (wcells st).length = 8 := by rw [wcells_length, hs]
  have e2 : (wcells Sm.K).length = 64 := by rw [wcells_length, K_length]
  have e3 : (bcells blk).length = blk.length := bcells_length blk
  have t1 : (digCells st blk fl n).take (72 + o) = wcells st ++ (wcells Sm.K ++ bcells (blk.take o)) := by
    rw [digCells, List.take_append, e1, List.take_of_length_le (by omega), List.take_append, e2, List.take_of_length_le (by omega), List.take_append_of_le_length (by omega), show 72 + o - 8 - 64 = o by omega]
    simp [bcells, List.map_take]
  have t2 : (digCells st blk fl n).drop (72 + o + x.length) = bcells (blk.drop (o + x.length)) ++ [.int .i64 fl, .int .u64 n] := by
    rw [digCells, List.drop_append, e1, List.drop_of_length_le (by omega), List.nil_append, List.drop_append, e2, List.drop_of_length_le (by omega), List.nil_append, List.drop_append_of_le_length (by omega), show 72 + o + x.length - 8 - 64 = o + x.length by omega]
    simp [bcells, List.map_drop]
  rw [t1, t2, digCells, laid, bcells_append, bcells_append]
  simp only [List.append_assoc]

/-- A digester that took in the bytes l, and says that it took in n. -/
def Taken (w : World) (b : Nat) (l : List UInt8) (n : Int) : Prop :=
  ∃ blk, blk.length = 64 ∧ blk.take (l.length % 64) = l.drop (64 * (l.length / 64)) ∧ Dig w b (Sm.blocks l (l.length / 64)).list blk ((l.length % 64 : Nat) : Int) n
theorem Taken.same {w w' : World} {b : Nat} {l : List UInt8} {n : Int} (h : Taken w b l n) (he : w'.heap[b]? = w.heap[b]?) : Taken w' b l n := by
  obtain ⟨blk, h1, h2, h3⟩ := h
  exact ⟨blk, h1, h2, h3.same he⟩
/-- Some bytes more: the block isn't full. -/
theorem taken_part (l x blk : List UInt8) (hb : blk.length = 64) (ht : blk.take (l.length % 64) = l.drop (64 * (l.length / 64))) (hx : l.length % 64 + x.length < 64) :
    (l ++ x).length / 64 = l.length / 64 ∧ (l ++ x).length % 64 = l.length % 64 + x.length ∧ (laid blk (l.length % 64) x).take ((l ++ x).length % 64) = (l ++ x).drop (64 * ((l ++ x).length / 64)) ∧ Sm.blocks (l ++ x) ((l ++ x).length / 64) = Sm.blocks l (l.length / 64) := by
  have e1 : (l ++ x).length / 64 = l.length / 64 := by rw [List.length_append]; omega
  have e2 : (l ++ x).length % 64 = l.length % 64 + x.length := by rw [List.length_append]; omega
  refine ⟨e1, e2, ?_, ?_⟩
  · rw [e1, e2, laid, List.drop_append_of_le_length (by omega), ← ht, List.take_append_of_le_length (by simp only [List.length_append, List.length_take]; omega)]
    rw [List.take_of_length_le (by simp only [List.length_append, List.length_take]; omega)]
  · rw [e1, blocks_append l x _ (by omega)]
/-- .. the block is full. -/
theorem taken_full (l x blk : List UInt8) (hb : blk.length = 64) (ht : blk.take (l.length % 64) = l.drop (64 * (l.length / 64))) (hx : l.length % 64 + x.length = 64) :
    (l ++ x).length / 64 = l.length / 64 + 1 ∧ (l ++ x).length % 64 = 0 ∧ (l ++ x).drop (64 * ((l ++ x).length / 64)) = [] ∧ Sm.blocks (l ++ x) ((l ++ x).length / 64) = Sm.block (laid blk (l.length % 64) x) 0 (Sm.blocks l (l.length / 64)) := by
  have e1 : (l ++ x).length / 64 = l.length / 64 + 1 := by rw [List.length_append]; omega
  have e2 : (l ++ x).length % 64 = 0 := by rw [List.length_append]; omega
  refine ⟨e1, e2, List.drop_of_length_le (by omega), ?_⟩
  rw [e1, blocks_last (l ++ x) (laid blk (l.length % 64) x) (l.length / 64) (by rw [List.length_append]; omega), blocks_append l x _ (by omega)]
  intro i hi
  have hd : blk.drop (l.length % 64 + x.length) = [] := List.drop_of_length_le (by omega)
  have e3 : laid blk (l.length % 64) x = (l ++ x).drop (64 * (l.length / 64)) := by
    rw [laid, hd, List.append_nil, ht, List.drop_append_of_le_length (by omega)]
  rw [e3, List.getD_eq_getElem?_getD, List.getD_eq_getElem?_getD, List.getElem?_drop]

/-! ## copy(dst, s): a string into a row. -/
theorem run_copy_str {P : Program} (w : World) (dT sT ty elem : TypeId) (g o dLen dCap : Nat) (s : ByteArray) (cur : Array Value) (t : TypeId) (n : Nat) (hn : n = Nat.min s.size dLen)
    (hu : P.underlying dT = some (.slice elem)) (hs : (P.info? elem).map (·.size) = some 1) (hg : w.heap[g]? = some (.cells cur t (0, 0))) (hfit : o + n ≤ cur.size) :
    (Builtin.copy_ #[dT, sT] ty #[.slice (some ⟨g, o, none⟩) dLen dCap, .string s]).run P w = .ok (goInt n) (w.setRow g (cur.toList.take o ++ bcells (s.data.toList.take n) ++ cur.toList.drop (o + n)).toArray) := by
  have hle : n ≤ s.size := by rw [hn]; exact Nat.min_le_left _ _
  have hlen : (bcells (s.data.toList.take n)).length = n := by
    rw [bcells_length, List.length_take]
    have : s.data.toList.length = s.size := by simp
    omega
  have hst := run_storeCells_at P g o t (bcells (s.data.toList.take n)) 0 cur w hg (by rw [hlen]; simpa using hfit) (bcells_one _)
  have htk : List.take n (List.map (fun b : UInt8 => Value.int IntKind.u8 (b.toNat : Int)) s.data.toList) = bcells (s.data.toList.take n) := by
    rw [bcells, List.map_take]
  rw [hlen] at hst
  simp only [Nat.add_zero] at hst
  cases hq : P.info? elem with
  | none => simp [hq] at hs
  | some i =>
    simp [Builtin.copy_, run_underlying hu, Builtin.lenOf, Builtin.firstCells, sizeOf, typeInfo, hq, ← hn]
    rw [htk, hst]
    simp [Result.andThen]

theorem wpList_copy_str {P : Program} {ops : Array Oper} {rest : List Oper} {o : Oper} {a : Act} {w : World} {Q : Exit → Act → World → Prop} (hgd : o.guard = none) (d x : Operand) (dT sT elem : TypeId)
    (ho : o.op = .call { callee := .builtin .copy, args := #[d, x], argTypes := #[dT, sT] }) (g off dLen dCap : Nat) (s : ByteArray) (hd : a.eval d = .slice (some ⟨g, off, none⟩) dLen dCap) (hx : a.eval x = .string s) (cur : Array Value) (t : TypeId) (n : Nat) (hn : n = Nat.min s.size dLen)
    (hu : P.underlying dT = some (.slice elem)) (hs : (P.info? elem).map (·.size) = some 1) (hg : w.heap[g]? = some (.cells cur t (0, 0))) (hfit : off + n ≤ cur.size)
    (hk : wpList P ops Q rest (a.put o.dst (goInt n)) (w.setRow g (cur.toList.take off ++ bcells (s.data.toList.take n) ++ cur.toList.drop (off + n)).toArray)) : wpList P ops Q (o :: rest) a w := by
  refine wpList_plain hgd fun K hK => ?_
  have hr := run_copy_str (P := P) w dT sT o.type elem g off dLen dCap s cur t n hn hu hs hg hfit
  unfold Oper.wp execOp
  simp only [ho, resolve, invoke, builtin, Sem.run_bind, Sem.run_pure, Result.andThen_ok, List.map_toArray, List.map_cons, List.map_nil, hd, hx, hr]
  exact hK _ _ hk

end Go.Proofs.Ytdhebdahfnilkaa
