/-
  Whole arrays built, stored and returned.
-/
import Derived.Test.YtdfbmijbmlainaaDoorGF
import Derived.Laws.ResultCell
import Derived.Laws.Rows
import Derived.Laws.CopyRow
import Derived.Laws.CopyOwn
import Derived.Laws.Tables

namespace Go.Proofs.YtdfbmijbmlainaaDoor
open Go.RowKit Go.Lib

theorem named_ret {fn : Func} {p u : Tmp} (h : fn.results = #[.cell p 23, .tmp u]) {R : Ending → World → Prop} {a : Act} {w : World} (g : Nat) (cs : Array Value) (hp : a.tmps.getD p undef = .pointer (some ⟨g, 0, none⟩)) (hg : w.heap[g]? = some (.cells cs 23 (0, 0))) (hs : cs.size = 32) (hd : a.defers = []) (hR : R (.returned (.tuple #[.agg cs, a.tmps.getD u undef])) w) : bodyPost Tryd.prog fn R .ret a w := by
  have hia : (Tryd.prog.info? 23).map (·.size) = some cs.size := by rw [hs]; kernel_rfl
  refine bodyPost_ret ?_ hd hR
  rw [results_cell_tmp h, hp]
  simp only [asAddr, Sem.run_pure, Result.andThen_ok]
  rw [run_loadVar_row w g 23 23 cs (0, 0) _ hg Tryd.underlying23 rfl hia]
  rfl

theorem wpList_build_known {P : Program} {ops : Array Oper} {rest : List Oper} {o : Oper} {a : Act} {w : World} {v : Value} {Q : Exit → Act → World → Prop} (hgd : o.guard = none) (t : TypeId) (ho : o.op = .build t #[]) (hr : (Instr.build t #[]).run P w = .ok v w) (hk : wpList P ops Q rest (a.put o.dst v) w) : wpList P ops Q (o :: rest) a w := by
  refine wpList_plain hgd fun K hK => ?_
  unfold Oper.wp execOp
  simp only [ho, List.map_toArray, List.map_nil, Sem.run_bind, hr, Result.andThen_ok, Sem.run_pure]
  exact hK _ _ hk
theorem build_zero (w : World) : (Instr.build 23 #[]).run Tryd.prog w = .ok (.agg zeros32) w := by
  rw [← zeros32_eq]
  kernel_rfl
theorem zeros32_one : zeros32.all (fun x => x.oneCell') = true := by
  rw [← zeros32_eq]
  kernel_rfl

theorem store_over39 {P : Program} (w : World) (g : Nat) (t : TypeId) (old cs : Array Value) (hg : w.heap[g]? = some (.cells old t (0, 0))) (ho : old.size = cs.size) (h1 : cs.all (·.oneCell') = true) : (storeCells ⟨g, 0, none⟩ cs.toList).run P w = .ok () (w.setRow g cs) := by
  have := run_storeCells_from (P := P) g t cs.toList 0 old w hg (by simp; omega) (fun v hv => (Array.all_eq_true_iff_forall_mem.1 h1) v (by simpa using hv))
  rw [this]
  simp

end Go.Proofs.YtdfbmijbmlainaaDoor
