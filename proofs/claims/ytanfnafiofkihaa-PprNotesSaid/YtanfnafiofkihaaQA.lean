/-
 PprStaysLaw; PprKeysLaw; PprBelows: several texts in one.
-/
import Derived.Test.YtanfnafiofkihaaGS
import Derived.Test.YtanfnafiofkihaaGT
import Derived.Test.YtanfnafiofkihaaGU

namespace Go.Proofs.Ytanfnafiofkihaa
open Go.RowKit Go.Lib

theorem Kept.row {w w1 w2 : World} {rb : Nat} (h : Kept w.heap.size w.heap.size w w1) (k : Kept w1.heap.size rb w1 w2) (hrb : w.heap.size ≤ rb) : Kept w.heap.size w.heap.size w w2 :=
 h.trans (k.mono h.size (fun _ hi _ => by omega))
theorem Kept.then {w w1 w2 : World} (h : Kept w.heap.size w.heap.size w w1) (k : Kept w1.heap.size w1.heap.size w1 w2) : Kept w.heap.size w.heap.size w w2 :=
 h.trans (k.mono h.size (fun _ hi _ => Nat.ne_of_lt (Nat.lt_of_lt_of_le hi h.size)))
end Go.Proofs.Ytanfnafiofkihaa

namespace Go.Proofs.Ytanfnafiofkihaa
open Go.RowKit Go.Lib

section
variable {P : Program} {ops : Array Oper} {rest : List Oper} {o : Oper} {a : Act} {w w' : World} {Q : Exit → Act → World → Prop}
theorem wpList_build_pair (hgd : o.guard = none) (t : TypeId) (i j : Nat) (x y : Operand) (ho : o.op = .build t #[(i, x), (j, y)]) (u v : Value) {r : Value} (hx : a.eval x = u) (hy : a.eval y = v) (hr : (Instr.build t #[(i, u), (j, v)]).run P w = .ok r w) (hk : wpList P ops Q rest (a.put o.dst r) w) : wpList P ops Q (o :: rest) a w := by
 refine wpList_plain hgd fun K hK => ?_
 unfold Oper.wp execOp
 simp only [ho, List.map_toArray, List.map_cons, List.map_nil, hx, hy, Sem.run_bind, hr, Result.andThen_ok, Sem.run_pure]
 exact hK _ _ hk
end

/-- The cells of a new row of the document. -/
def newRow (l : List UInt8) (bits : Nat) : Array Value := refRow l bits (.slice none 0 0)
def zerosRow : Array Value := refRow (List.replicate 32 0) 0 (.slice none 0 0)
theorem zerosRow_size : zerosRow.size = 34 := by decide
theorem newRow_size {l : List UInt8} (h : l.length = 32) (bits : Nat) : (newRow l bits).size = 34 := refRow_size h bits _
theorem newRow_all (l : List UInt8) (bits : Nat) : (newRow l bits).all (·.oneCell') = true := by
 have h := bcells_all l
 rw [newRow, refRow]
 simp only [List.all_toArray] at h ⊢
 rw [List.all_append, h]
 rfl
set_option maxRecDepth 100000 in
theorem build_newRow (w : World) (l : List UInt8) (hl : l.length = 32) (bits : Nat) : (Instr.build 60 #[(0, .agg (bcells l).toArray), (1, .int .i64 (bits : Int))]).run Try.prog w = .ok (.agg (newRow l bits)) w := by
 generalize (bits : Int) = n
 revert l
 refine list32 ?_
 intros
 kernel_rfl
set_option maxRecDepth 100000 in
theorem alloc_newRow (w : World) : (Instr.alloc 60 true (.tuple #[])).run Try.prog w = .ok (.pointer (some ⟨w.heap.size, 0, none⟩)) (w.alloc (.cells zerosRow 60)) := by kernel_rfl
set_option maxRecDepth 100000 in
theorem refRowInfo {cs : Array Value} (h : cs.size = 34) : (Try.prog.info? 60).map (·.size) = some cs.size := by rw [h]; kernel_rfl
end Go.Proofs.Ytanfnafiofkihaa

namespace Go.Proofs.Ytanfnafiofkihaa
open Go.RowKit Go.Lib

section
variable {P : Program} {ops : Array Oper} {rest : List Oper} {o : Oper} {a : Act} {w w' : World} {Q : Exit → Act → World → Prop}
end
end Go.Proofs.Ytanfnafiofkihaa
