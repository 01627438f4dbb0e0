/-
  BookAwakeMath; BookAwakeRow: several texts in one.
-/
import Derived.Test.YtdfbmijbmlainaaDoorGD
import Derived.Test.YtdfbmijbmlainaaDoorGG
import Derived.Test.YtdfbmijbmlainaaDoorGF

namespace Go.Proofs.YtdfbmijbmlainaaDoor

/-- The digest of one byte and nothing else. -/
def dg (i : UInt8) : List UInt8 := i :: List.replicate 31 0
theorem dg_length (i : UInt8) : (dg i).length = 32 := rfl
theorem dg_inj {i j : UInt8} (h : dg i = dg j) : i = j := (List.cons.inj h).1
def exf1 : List (List UInt8) × List (List UInt8) := ([dg 1], [dg 2])
def exf2 : List (List UInt8) × List (List UInt8) := ([dg 2, dg 3], [dg 4])
theorem ex_note1 : Bk.note [] exf1 = [exf1] := rfl
theorem ex_note2 : Bk.note [exf1] exf2 = [exf1, exf2] := by decide
theorem ex_one {x : List UInt8} (h : Bk.Cl [exf1, exf2] [dg 1] x) : x = dg 1 ∨ x = dg 2 := by
  induction h with
  | base x hx => exact .inl (List.mem_singleton.1 hx)
  | fact f o hf _ ho ih =>
    rcases List.mem_cons.1 hf with rfl | hf
    · exact .inr (List.mem_singleton.1 ho)
    · obtain rfl := List.mem_singleton.1 hf
      have h3 := ih (dg 3) (by simp [exf2])
      rcases h3 with h3 | h3
      · exact absurd (dg_inj h3) (by decide)
      · exact absurd (dg_inj h3) (by decide)
theorem ex_two : Bk.Cl [exf1, exf2] [dg 1] (dg 2) := .fact exf1 _ (by simp) (fun x hx => .base x hx) (by simp [exf1])
theorem ex_not : ¬ Bk.Cl [exf1, exf2] [dg 1] (dg 4) := fun h => by
  rcases ex_one h with h | h
  · exact absurd (dg_inj h) (by decide)
  · exact absurd (dg_inj h) (by decide)
theorem ex_four : Bk.Cl [exf1, exf2] [dg 1, dg 3] (dg 4) := by
  refine .fact exf2 _ (by simp) (fun x hx => ?_) (by simp [exf2])
  rcases List.mem_cons.1 hx with rfl | hx
  · exact .fact exf1 _ (by simp) (fun x hx => .base x (by rw [List.mem_singleton.1 hx]; simp)) (by simp [exf1])
  · rw [List.mem_singleton.1 hx]
    exact .base _ (by simp)
theorem ex_is {M : List (List UInt8)} (h : Bk.Is [exf1, exf2] [dg 1] M) : M.length = 2 := by
  have hk : Bk.Is [exf1, exf2] [dg 1] [dg 1, dg 2] := by
    refine ⟨List.Pairwise.cons (fun x hx => ?_) (List.Pairwise.cons (fun x hx => nomatch hx) List.Pairwise.nil), fun x => ⟨fun hx => ?_, fun hx => ?_⟩⟩
    · rw [List.mem_singleton.1 hx]
      rfl
    · rcases List.mem_cons.1 hx with rfl | hx
      · exact .base _ (by simp)
      · rw [List.mem_singleton.1 hx]
        exact ex_two
    · rcases ex_one hx with rfl | rfl <;> simp
  rw [Bk.Is.one h hk]
  rfl

end Go.Proofs.YtdfbmijbmlainaaDoor

namespace Go.Proofs.YtdfbmijbmlainaaDoor
open Go.RowKit Go.Lib

section
variable {P : Program} {ops : Array Oper} {rest : List Oper} {o : Oper} {a : Act} {w w' : World} {Q : Exit → Act → World → Prop}
theorem wpList_build_k (hgd : o.guard = none) (t : TypeId) (x : Operand) (ho : o.op = .build t #[(0, x)]) (v : Value) {u : Value} (hx : a.eval x = v) (hr : (Instr.build t #[(0, v)]).run P w = .ok u w) (hk : wpList P ops Q rest (a.put o.dst u) w) : wpList P ops Q (o :: rest) a w := by
  refine wpList_plain hgd fun K hK => ?_
  unfold Oper.wp execOp
  simp only [ho, List.map_toArray, List.map_cons, List.map_nil, hx, Sem.run_bind, hr, Result.andThen_ok, Sem.run_pure]
  exact hK _ _ hk
theorem wpList_alloc_k (hgd : o.guard = none) (t : TypeId) (ho : o.op = .alloc t) {u : Value} (hr : (Instr.alloc t true (.tuple #[])).run P w = .ok u w') (hk : wpList P ops Q rest (a.put o.dst u) w') : wpList P ops Q (o :: rest) a w := by
  refine wpList_plain hgd fun K hK => ?_
  unfold Oper.wp execOp
  simp only [ho, Sem.run_bind, hr, Result.andThen_ok, Sem.run_pure]
  exact hK _ _ hk
end
theorem build_dg1 (w : World) : (Instr.build 23 #[(0, .int .u8 1)]).run Tryd.prog w = .ok (.agg (bcells (dg 1)).toArray) w := by kernel_rfl
theorem build_dg2 (w : World) : (Instr.build 23 #[(0, .int .u8 2)]).run Tryd.prog w = .ok (.agg (bcells (dg 2)).toArray) w := by kernel_rfl
theorem build_dg3 (w : World) : (Instr.build 23 #[(0, .int .u8 3)]).run Tryd.prog w = .ok (.agg (bcells (dg 3)).toArray) w := by kernel_rfl
theorem build_dg4 (w : World) : (Instr.build 23 #[(0, .int .u8 4)]).run Tryd.prog w = .ok (.agg (bcells (dg 4)).toArray) w := by kernel_rfl
theorem alloc_zero (w : World) : (Instr.alloc 23 true (.tuple #[])).run Tryd.prog w = .ok (.pointer (some ⟨w.heap.size, 0, none⟩)) (w.alloc (.cells zeros32 23)) := by
  rw [← zeros32_eq]
  kernel_rfl

/-- A digest stored into its variable: the others stay. -/
theorem four_set {w : World} {g h : Nat} {cs old : Array Value} (hg : w.heap[g]? = some (.cells cs 23 (0, 0))) (hne : g ≠ h) : (w.setRow h old).heap[g]? = some (.cells cs 23 (0, 0)) := by
  rw [setRow_other39 w h g old hne]
  exact hg

theorem hs_one {w : World} {g c : Nat} {l : List UInt8} (hl : l.length = 32) (h : w.heap[g]? = some (.cells (bcells l).toArray 23 (0, 0))) : Hs w (.slice (some ⟨g, 0, none⟩) 1 c) [l] := ⟨fun x hx => by rw [List.mem_singleton.1 hx]; exact hl, some ⟨g, 0, none⟩, g, 0, c, rfl, fun i hi => by
  obtain rfl : i = 0 := by simp at hi; omega
  exact ⟨rfl, lt_of_block h, fun j v hv => by rw [Nat.zero_mul, Nat.zero_add]; exact cells_get h hv⟩⟩
theorem hs_two {w : World} {g c : Nat} {l m : List UInt8} (hl : l.length = 32) (hm : m.length = 32) (h : w.heap[g]? = some (.cells (bcells l ++ bcells m).toArray 23 (0, 0))) : Hs w (.slice (some ⟨g, 0, none⟩) 2 c) [l, m] := by
  refine ⟨fun x hx => ?_, some ⟨g, 0, none⟩, g, 0, c, rfl, fun i hi => ?_⟩
  · rcases List.mem_cons.1 hx with rfl | hx
    · exact hl
    · rw [List.mem_singleton.1 hx]
      exact hm
  · have hi2 : i = 0 ∨ i = 1 := by simp at hi; omega
    rcases hi2 with rfl | rfl
    · refine ⟨rfl, lt_of_block h, fun j v hv => ?_⟩
      rw [Nat.zero_mul, Nat.zero_add]
      refine cells_get h ?_
      have hv2 : (bcells l)[j]? = some v := hv
      rw [List.getElem?_append_left (List.getElem?_eq_some_iff.1 hv2).1]
      exact hv2
    · refine ⟨rfl, lt_of_block h, fun j v hv => ?_⟩
      rw [Nat.one_mul, Nat.zero_add]
      refine cells_get h ?_
      have hbl : (bcells l).length = 32 := by rw [bcells_length, hl]
      rw [List.getElem?_append_right (by omega), hbl, Nat.add_sub_cancel_left]
      exact hv

end Go.Proofs.YtdfbmijbmlainaaDoor
