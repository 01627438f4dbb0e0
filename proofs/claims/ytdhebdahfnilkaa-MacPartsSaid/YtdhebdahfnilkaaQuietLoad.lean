/-
  A region that draws its order, whose calls lay blocks of their own: whole arrays loaded in it. No function of the program is named here.
-/
import Derived.Test.YtdhebdahfnilkaaMem
import Derived.Deep.QuietTactic
import Derived.BigQuiet
import Derived.Lib.QuietBelow
import Derived.Deep.MidRow
namespace Go.Proofs.Ytdhebdahfnilkaa
open Go.RowKit

/-- A whole array read in a region that only reads. -/
theorem wpQuiet_load_row {P : Program} {ops : Array Oper} {C : World → Prop} {Q : Act → Prop} {a : Act} {o : Oper} {rest : List Oper} (ty : TypeId) (x : Operand) (ho : o.op = .load ty x) (b : Nat) (hx : a.eval x = .pointer (some ⟨b, 0, none⟩)) (cs : Array Value) (d : TypeDesc)
    (hc : ∀ w, C w → w.rangeAt b 0 cs.toList) (hu : P.underlying ty = some d) (hd : d.isRow = true) (hi : (P.info? ty).map (·.size) = some cs.size) (hw : Region.wanted o (yielded ops a.tmps) = true)
    (h : wpQuiet P ops C Q rest (a.put o.dst (.agg cs))) : wpQuiet P ops C Q (o :: rest) a :=
  wpQuiet_step fun K hK => by
    rw [if_pos hw]
    refine ⟨.agg cs, fun w hw' => ?_, hK _ h⟩
    unfold Oper.quietAt execOp
    simp only [ho, hx, Instr.loadAt, Instr.sureAddr, Sem.run_bind, Sem.run_pure, Result.andThen_ok, run_loadVar_mid w b 0 ty cs.toList d (hc w hw') hu hd (by rw [hi]; simp)]
    exact ⟨rfl, rfl⟩

/-- A whole array read under a guard that holds. -/
theorem wpList_load_row_g {P : Program} {ops : Array Oper} {rest : List Oper} {o : Oper} {a : Act} {w : World} {Q : Exit → Act → World → Prop} (hw : Region.wanted o (yielded ops a.tmps) = true) (ty : TypeId) (x : Operand) (ho : o.op = .load ty x)
    (g : Nat) (hx : a.eval x = .pointer (some ⟨g, 0, none⟩)) (t : TypeId) (cs : Array Value) (fr : Nat × Nat) (d : TypeDesc) (hg : w.heap[g]? = some (.cells cs t fr))
    (hu : P.underlying ty = some d) (hd : (match d with | .struct _ | .array _ _ => true | _ => false) = true) (hi : (P.info? ty).map (·.size) = some cs.size)
    (h : wpList P ops Q rest (a.put o.dst (.agg cs)) w) : wpList P ops Q (o :: rest) a w :=
  wpList_step fun K hK => by
    rw [if_pos hw]
    exact wp_load_row ty x ho g hx t cs fr d hg hu hd hi (hK _ _ h)

/-- A block's cells, in every world of the class. -/
theorem range_regrown {w : World} {b : Nat} {cs : Array Value} {t : TypeId} {fz : Nat × Nat} (h : w.heap[b]? = some (.cells cs t fz)) (w' : World) (hw : ∃ p : Regrown, w' = Go.Sort.grow (redrawn w p.d) p.os) : w'.rangeAt b 0 cs.toList := by
  obtain ⟨p, rfl⟩ := hw
  intro j v hj
  have hc : w.cell? ⟨b, 0 + j, none⟩ = some v := by
    rw [Nat.zero_add]
    simp [World.cell?, h]
    simpa using hj
  exact cell_regrown hc p.d p.os
/-- A contract that ends in 'Kept', in the class. -/
theorem kept_regrown {P : Program} {f : FuncId} {args : Array Value} {w : World} {d : Nat} {os : Array Obj} {v : Value}
    (h : ∀ w, Calls P f args w fun e w' => e = .returned v ∧ Kept w.heap.size w.heap.size w w') : Calls P f args (Go.Sort.grow (redrawn w d) os) fun e w'' => e = .returned v ∧ ∃ p : Regrown, w'' = Go.Sort.grow (redrawn w p.d) p.os :=
  Calls.regrown_of ((h _).mono fun _ _ ⟨he, hk⟩ => ⟨he, hk.below (Nat.le_refl _) (Nat.le_refl _)⟩)
theorem regrown_kept {w w' : World} (h : ∃ p : Regrown, w' = Go.Sort.grow (redrawn w p.d) p.os) : Kept w.heap.size w.heap.size w w' := by
  obtain ⟨p, rfl⟩ := h
  exact Kept.ofBelow (below_regrown w p.d p.os) (Nat.le_refl _)

end Go.Proofs.Ytdhebdahfnilkaa
