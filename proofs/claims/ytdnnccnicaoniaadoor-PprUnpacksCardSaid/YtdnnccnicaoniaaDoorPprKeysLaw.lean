/-
  The statement PprKeys: its walk.
-/
import Derived.Test.YtdnnccnicaoniaaDoorGT
import Derived.Test.YtdnnccnicaoniaaDoorPprStaysLaw

namespace Go.Proofs.YtdnnccnicaoniaaDoor
open Go.RowKit Go.Lib

section
variable {P : Program} {ops : Array Oper} {rest : List Oper} {o : Oper} {a : Act} {w w' : World} {Q : Exit → Act → World → Prop}
theorem wpList_build_pair (hgd : o.guard = none) (t : TypeId) (i j : Nat) (x y : Operand) (ho : o.op = .build t #[(i, x), (j, y)]) (u v : Value) {r : Value} (hx : a.eval x = u) (hy : a.eval y = v) (hr : (Instr.build t #[(i, u), (j, v)]).run P w = .ok r w) (hk : wpList P ops Q rest (a.put o.dst r) w) : wpList P ops Q (o :: rest) a w := by
  refine wpList_plain hgd fun K hK => ?_
  unfold Oper.wp execOp
  simp only [ho, List.map_toArray, List.map_cons, List.map_nil, hx, hy, Sem.run_bind, hr, Result.andThen_ok, Sem.run_pure]
  exact hK _ _ hk
theorem wpList_build_none_g (hw : Region.wanted o (yielded ops a.tmps) = true) (t : TypeId) (ho : o.op = .build t #[]) {u : Value} (hr : (Instr.build t #[]).run P w = .ok u w) (hk : wpList P ops Q rest (a.put o.dst u) w) : wpList P ops Q (o :: rest) a w := by
  refine wpList_step fun K hK => ?_
  rw [if_pos hw]
  unfold Oper.wp execOp
  simp only [ho, List.map_toArray, List.map_nil, Sem.run_bind, hr, Result.andThen_ok, Sem.run_pure]
  exact hK _ _ hk
end

/-- The cells of a new row of the document. -/
def newRow (l : List UInt8) (bits : Nat) : Array Value := refRow l bits (.slice none 0 0)
def zerosRow : Array Value := refRow (List.replicate 32 0) 0 (.slice none 0 0)
theorem zerosRow_size : zerosRow.size = 34 := by decide
theorem newRow_size {l : List UInt8} (h : l.length = 32) (bits : Nat) : (newRow l bits).size = 34 := refRow_size h bits _
theorem newRow_all (l : List UInt8) (bits : Nat) : (newRow l bits).all (·.oneCell') = true := by
  have h := bcells_all l
  rw [newRow, refRow]
  simp only [List.all_toArray] at h ⊢
  rw [List.all_append, h]
  rfl
set_option maxRecDepth 100000 in
theorem build_newRow (w : World) (l : List UInt8) (hl : l.length = 32) (bits : Nat) : (Instr.build 32 #[(0, .agg (bcells l).toArray), (1, .int .i64 (bits : Int))]).run Tryd.prog w = .ok (.agg (newRow l bits)) w := by
  generalize (bits : Int) = n
  revert l
  refine list32 ?_
  intros
  kernel_rfl
set_option maxRecDepth 100000 in
theorem alloc_newRow (w : World) : (Instr.alloc 32 true (.tuple #[])).run Tryd.prog w = .ok (.pointer (some ⟨w.heap.size, 0, none⟩)) (w.alloc (.cells zerosRow 32)) := by kernel_rfl
set_option maxRecDepth 100000 in
theorem refRowInfo {cs : Array Value} (h : cs.size = 34) : (Tryd.prog.info? 32).map (·.size) = some cs.size := by rw [h]; kernel_rfl
set_option maxRecDepth 100000 in
theorem build_zeroHash (w : World) : (Instr.build 23 #[]).run Tryd.prog w = .ok (.agg zeros32) w := by kernel_rfl

theorem look_out (bits : Nat) (hb : bits ≤ 32) (L : List Sd) (rb : Nat) (sl : Value) (pl : Int) (w : World) (hR : RowIs w rb bits sl L) (h : pl < 0 ∨ ((2 ^ bits : Nat) : Int) ≤ pl) : Calls Tryd.prog 11 #[.pointer (some ⟨rb, 0, none⟩), .pointer none, .int .i64 pl] w fun e w' => e = .returned (.tuple #[.agg zeros32, .int .i64 1]) ∧ Kept w.heap.size w.heap.size w w' :=
  look_no (some ⟨rb, 0, none⟩) (.pointer none) pl 0 1 (by decide) w (fun w2 k => find_out bits hb L rb sl pl w2 (hR.kept k) h)
theorem gone_out (bits : Nat) (hb : bits ≤ 32) (L : List Sd) (rb : Nat) (sl : Value) (pl : Int) (w : World) (hR : RowIs w rb bits sl L) (h : pl < 0 ∨ ((2 ^ bits : Nat) : Int) ≤ pl) : Calls Tryd.prog 13 #[.pointer (some ⟨rb, 0, none⟩), .int .i64 pl] w fun e w' => e = .returned (.bool true) ∧ Kept w.heap.size w.heap.size w w' :=
  gone_yes (some ⟨rb, 0, none⟩) pl 0 1 (by decide) w (find_out bits hb L rb sl pl w hR h)

end Go.Proofs.YtdnnccnicaoniaaDoor
