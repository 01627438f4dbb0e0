/-
  BookAwakeMath; BookAwakeRow; BookNoted; BookFewMath: several texts in one.
-/
import Derived.Test.YtdfbmijbmlainaaDoorGD
import Derived.Test.YtdfbmijbmlainaaDoorGG
import Derived.Test.YtdfbmijbmlainaaDoorGF
import Derived.OwnWalk

namespace Go.Proofs.YtdfbmijbmlainaaDoor

/-- The digest of one byte and nothing else. -/
def dg (i : UInt8) : List UInt8 := i :: List.replicate 31 0
theorem dg_length (i : UInt8) : (dg i).length = 32 := rfl
theorem dg_inj {i j : UInt8} (h : dg i = dg j) : i = j := (List.cons.inj h).1
def exf1 : List (List UInt8) × List (List UInt8) := ([dg 1], [dg 2])
def exf2 : List (List UInt8) × List (List UInt8) := ([dg 2, dg 3], [dg 4])
theorem ex_note1 : Bk.note [] exf1 = [exf1] := rfl
theorem ex_note2 : Bk.note [exf1] exf2 = [exf1, exf2] := by decide
theorem ex_one {x : List UInt8} (h : Bk.Cl [exf1, exf2] [dg 1] x) : x = dg 1 ∨ x = dg 2 := by
  induction h with
  | base x hx => exact .inl (List.mem_singleton.1 hx)
  | fact f o hf _ ho ih =>
    rcases List.mem_cons.1 hf with rfl | hf
    · exact .inr (List.mem_singleton.1 ho)
    · obtain rfl := List.mem_singleton.1 hf
      have h3 := ih (dg 3) (by simp [exf2])
      rcases h3 with h3 | h3
      · exact absurd (dg_inj h3) (by decide)
      · exact absurd (dg_inj h3) (by decide)
theorem ex_two : Bk.Cl [exf1, exf2] [dg 1] (dg 2) := .fact exf1 _ (by simp) (fun x hx => .base x hx) (by simp [exf1])
theorem ex_not : ¬ Bk.Cl [exf1, exf2] [dg 1] (dg 4) := fun h => by
  rcases ex_one h with h | h
  · exact absurd (dg_inj h) (by decide)
  · exact absurd (dg_inj h) (by decide)
theorem ex_four : Bk.Cl [exf1, exf2] [dg 1, dg 3] (dg 4) := by
  refine .fact exf2 _ (by simp) (fun x hx => ?_) (by simp [exf2])
  rcases List.mem_cons.1 hx with rfl | hx
  · exact .fact exf1 _ (by simp) (fun x hx => .base x (by rw [List.mem_singleton.1 hx]; simp)) (by simp [exf1])
  · rw [List.mem_singleton.1 hx]
    exact .base _ (by simp)
theorem ex_is {M : List (List UInt8)} (h : Bk.Is [exf1, exf2] [dg 1] M) : M.length = 2 := by
  have hk : Bk.Is [exf1, exf2] [dg 1] [dg 1, dg 2] := by
    refine ⟨List.Pairwise.cons (fun x hx => ?_) (List.Pairwise.cons (fun x hx => nomatch hx) List.Pairwise.nil), fun x => ⟨fun hx => ?_, fun hx => ?_⟩⟩
    · rw [List.mem_singleton.1 hx]
      rfl
    · rcases List.mem_cons.1 hx with rfl | hx
      · exact .base _ (by simp)
      · rw [List.mem_singleton.1 hx]
        exact ex_two
    · rcases ex_one hx with rfl | rfl <;> simp
  rw [Bk.Is.one h hk]
  rfl

end Go.Proofs.YtdfbmijbmlainaaDoor

namespace Go.Proofs.YtdfbmijbmlainaaDoor
open Go.RowKit Go.Lib

section
variable {P : Program} {ops : Array Oper} {rest : List Oper} {o : Oper} {a : Act} {w w' : World} {Q : Exit → Act → World → Prop}
theorem wpList_build_k (hgd : o.guard = none) (t : TypeId) (x : Operand) (ho : o.op = .build t #[(0, x)]) (v : Value) {u : Value} (hx : a.eval x = v) (hr : (Instr.build t #[(0, v)]).run P w = .ok u w) (hk : wpList P ops Q rest (a.put o.dst u) w) : wpList P ops Q (o :: rest) a w := by
  refine wpList_plain hgd fun K hK => ?_
  unfold Oper.wp execOp
  simp only [ho, List.map_toArray, List.map_cons, List.map_nil, hx, Sem.run_bind, hr, Result.andThen_ok, Sem.run_pure]
  exact hK _ _ hk
theorem wpList_alloc_k (hgd : o.guard = none) (t : TypeId) (ho : o.op = .alloc t) {u : Value} (hr : (Instr.alloc t true (.tuple #[])).run P w = .ok u w') (hk : wpList P ops Q rest (a.put o.dst u) w') : wpList P ops Q (o :: rest) a w := by
  refine wpList_plain hgd fun K hK => ?_
  unfold Oper.wp execOp
  simp only [ho, Sem.run_bind, hr, Result.andThen_ok, Sem.run_pure]
  exact hK _ _ hk
end
theorem build_dg1 (w : World) : (Instr.build 23 #[(0, .int .u8 1)]).run Tryd.prog w = .ok (.agg (bcells (dg 1)).toArray) w := by kernel_rfl
theorem build_dg2 (w : World) : (Instr.build 23 #[(0, .int .u8 2)]).run Tryd.prog w = .ok (.agg (bcells (dg 2)).toArray) w := by kernel_rfl
theorem build_dg3 (w : World) : (Instr.build 23 #[(0, .int .u8 3)]).run Tryd.prog w = .ok (.agg (bcells (dg 3)).toArray) w := by kernel_rfl
theorem build_dg4 (w : World) : (Instr.build 23 #[(0, .int .u8 4)]).run Tryd.prog w = .ok (.agg (bcells (dg 4)).toArray) w := by kernel_rfl
theorem alloc_zero (w : World) : (Instr.alloc 23 true (.tuple #[])).run Tryd.prog w = .ok (.pointer (some ⟨w.heap.size, 0, none⟩)) (w.alloc (.cells zeros32 23)) := by
  rw [← zeros32_eq]
  kernel_rfl

/-- A digest stored into its variable: the others stay. -/
theorem four_set {w : World} {g h : Nat} {cs old : Array Value} (hg : w.heap[g]? = some (.cells cs 23 (0, 0))) (hne : g ≠ h) : (w.setRow h old).heap[g]? = some (.cells cs 23 (0, 0)) := by
  rw [setRow_other39 w h g old hne]
  exact hg

theorem hs_one {w : World} {g c : Nat} {l : List UInt8} (hl : l.length = 32) (h : w.heap[g]? = some (.cells (bcells l).toArray 23 (0, 0))) : Hs w (.slice (some ⟨g, 0, none⟩) 1 c) [l] := ⟨fun x hx => by rw [List.mem_singleton.1 hx]; exact hl, some ⟨g, 0, none⟩, g, 0, c, rfl, fun i hi => by
  obtain rfl : i = 0 := by simp at hi; omega
  exact ⟨rfl, lt_of_block h, fun j v hv => by rw [Nat.zero_mul, Nat.zero_add]; exact cells_get h hv⟩⟩
theorem hs_two {w : World} {g c : Nat} {l m : List UInt8} (hl : l.length = 32) (hm : m.length = 32) (h : w.heap[g]? = some (.cells (bcells l ++ bcells m).toArray 23 (0, 0))) : Hs w (.slice (some ⟨g, 0, none⟩) 2 c) [l, m] := by
  refine ⟨fun x hx => ?_, some ⟨g, 0, none⟩, g, 0, c, rfl, fun i hi => ?_⟩
  · rcases List.mem_cons.1 hx with rfl | hx
    · exact hl
    · rw [List.mem_singleton.1 hx]
      exact hm
  · have hi2 : i = 0 ∨ i = 1 := by simp at hi; omega
    rcases hi2 with rfl | rfl
    · refine ⟨rfl, lt_of_block h, fun j v hv => ?_⟩
      rw [Nat.zero_mul, Nat.zero_add]
      refine cells_get h ?_
      have hv2 : (bcells l)[j]? = some v := hv
      rw [List.getElem?_append_left (List.getElem?_eq_some_iff.1 hv2).1]
      exact hv2
    · refine ⟨rfl, lt_of_block h, fun j v hv => ?_⟩
      rw [Nat.one_mul, Nat.zero_add]
      refine cells_get h ?_
      have hbl : (bcells l).length = 32 := by rw [bcells_length, hl]
      rw [List.getElem?_append_right (by omega), hbl, Nat.add_sub_cancel_left]
      exact hv

end Go.Proofs.YtdfbmijbmlainaaDoor

namespace Go.Proofs.YtdfbmijbmlainaaDoor
open Go.RowKit Go.Lib

/-- A book stays where the document's list of facts grows. -/
theorem Bok.stayF {w w' : World} {base bb b : Nat} {fs : List (List (List UInt8) × List (List UInt8))} {nmf : Lit → Option Value} {S : BokS} (h : Bok w base bb fs b nmf S) (k : StayF w w') : Bok w' base bb fs b nmf S := by
  have hc : ∀ (i : Nat) (cs : Array Value) (t : TypeId) (fr : Nat × Nat), t ≠ 49 → w.heap[i]? = some (.cells cs t fr) → w'.heap[i]? = some (.cells cs t fr) := fun i cs t fr ht hh => k i _ hh (fun cs2 fr2 e => by
    injection e with _ h2 _
    exact ht h2)
  have hm : ∀ {i : Nat}, (∃ es c, w.heap[i]? = some (.map es c)) → w'.heap[i]? = w.heap[i]? := fun {i} ⟨es, c, hh⟩ => by
    rw [hh]
    exact k i _ hh (fun cs2 fr2 e => by cases e)
  refine ⟨hc _ _ _ _ (by decide) h.cells, h.lowb, h.lowa, h.lown, h.lowm, h.an, h.amm, h.nmm, ?_, h.alike.same (hm h.alike.map), h.need.same (hm h.need.map), h.names.same (hm h.names.map), fun o => (h.row o).stay fun i hi => ?_, h.sep, h.free, h.needed, h.same, h.found, h.few⟩
  · refine h.facts.stay (fun i hi => ?_) (fun i cs fr hh => hc _ _ _ _ (by decide) hh)
    obtain ⟨ps, _, ho, _⟩ := h.facts
    obtain ⟨cs, hh⟩ := rowCells ho i hi
    rw [hh]
    exact hc _ _ _ _ (by decide) hh
  · obtain ⟨cs, hh⟩ := (h.row o).cellsAt i hi
    rw [hh]
    exact hc _ _ _ _ (by decide) hh
/-- The document's list stays where the book grows. -/
theorem OwnF.bk {w w' : World} {base b : Nat} {v : Value} {L : List (List (List UInt8) × List (List UInt8))} (h : OwnF w base v L) (k : BkFr b w w') : OwnF w' base v L := by
  obtain ⟨ps, hl, ho, hp⟩ := h
  have one : ∀ {B : Nat} {u : Value} {M : List (List UInt8)}, Own w B u M → Own w' B u M := fun {B u M} h => by
    refine ⟨h.1, h.2.1, ?_⟩
    rcases h.2.2 with h1 | ⟨g, cap, cur, rfl, hb2, hh, rest⟩
    · exact .inl h1
    · exact .inr ⟨g, cap, cur, rfl, hb2, k.oth _ _ _ _ hh (by decide) (by decide) (by decide), rest⟩
  refine ⟨ps, hl, ⟨ho.1, ?_⟩, fun i hi hpi => ⟨one (hp i hi hpi).1, one (hp i hi hpi).2⟩⟩
  rcases ho.2 with h1 | ⟨g, cap, cur, rfl, hb2, hh, rest⟩
  · exact .inl h1
  · exact .inr ⟨g, cap, cur, rfl, hb2, k.oth _ _ _ _ hh (by decide) (by decide) (by decide), rest⟩

/-- Facts noted one behind the other. -/
def notes (L : List (List (List UInt8) × List (List UInt8))) : List (List (List UInt8) × List (List UInt8)) := L.foldl Bk.note []
theorem notes_more (L : List (List (List UInt8) × List (List UInt8))) (k : Nat) (h : k < L.length) : notes (L.take (k + 1)) = Bk.note (notes (L.take k)) L[k] := by
  rw [List.take_succ_eq_append_getElem h, notes, notes, List.foldl_append]
  rfl
theorem bknote_length (fs : List (List (List UInt8) × List (List UInt8))) (f : List (List UInt8) × List (List UInt8)) : (Bk.note fs f).length ≤ fs.length + 1 := by
  unfold Bk.note
  split
  · omega
  · split
    · omega
    · simp
theorem bknote_mem (fs : List (List (List UInt8) × List (List UInt8))) (f g : List (List UInt8) × List (List UInt8)) (h : g ∈ Bk.note fs f) : g ∈ fs ∨ g = f := by
  unfold Bk.note at h
  split at h
  · exact .inl h
  · split at h
    · exact .inl h
    · simpa using h
theorem notes_length (L : List (List (List UInt8) × List (List UInt8))) : ∀ k, k ≤ L.length → (notes (L.take k)).length ≤ k
  | 0, _ => by simp [notes]
  | k + 1, h => by
    rw [notes_more L k (by omega)]
    have := notes_length L k (by omega)
    have := bknote_length (notes (L.take k)) L[k]
    omega
theorem notes_mem (L : List (List (List UInt8) × List (List UInt8))) : ∀ k, k ≤ L.length → ∀ g ∈ notes (L.take k), g ∈ L
  | 0, _, g, hg => by simp [notes] at hg
  | k + 1, h, g, hg => by
    rw [notes_more L k (by omega)] at hg
    rcases bknote_mem _ _ _ hg with h1 | rfl
    · exact notes_mem L k (by omega) g h1
    · exact List.getElem_mem _

theorem notedFactInfo : (Tryd.prog.info? 121).map (·.size) = some 2 := by kernel_rfl

/-- What is noted. -/
def NotedPost (L : List (List (List UInt8) × List (List UInt8))) (w : World) (e : Ending) (w' : World) : Prop :=
  ∃ bb u, e = .returned (.tuple #[.pointer (some ⟨bb, 0, none⟩), u, .bool true]) ∧ (∃ n, n ≤ 62 * L.length ∧ ∃ S, Bok w' w.heap.size bb (notes L) n (fun _ => none) S) ∧ OwnF w' w.heap.size u (notes L) ∧ Kept w.heap.size w.heap.size w w'

end Go.Proofs.YtdfbmijbmlainaaDoor

namespace Go.Proofs.YtdfbmijbmlainaaDoor
open Go.RowKit Go.Lib

theorem outs_le (b : Nat) : ∀ (fs : List (List (List UInt8) × List (List UInt8))), (∀ f ∈ fs, f.2.length ≤ b) → (Bk.outs fs).length ≤ fs.length * b
  | [], _ => by simp [Bk.outs]
  | f :: fs, h => by
    have h1 := outs_le b fs (fun g hg => h g (by simp [hg]))
    have h2 := h f (by simp)
    simp only [Bk.outs, List.flatMap_cons, List.length_append, List.length_cons] at h1 ⊢
    rw [Nat.add_mul]
    omega
theorem is_length {fs : List (List (List UInt8) × List (List UInt8))} {fr M : List (List UInt8)} (h : Bk.Is fs fr M) : M.length ≤ fr.length + (Bk.outs fs).length := by
  have hn : M.Nodup := h.rising.imp fun {a b} hab e => by
    subst e
    rw [Bk.less_irrefl] at hab
    cases hab
  have := Bk.nodup_le M (fr ++ Bk.outs fs) hn (fun x hx => Bk.cl_mem ((h.mem x).1 hx))
  rwa [List.length_append] at this
/-- What is few keeps its bounds when it is noted. -/
theorem few_notes {L : List (List (List UInt8) × List (List UInt8))} (h : Few L) : (notes L).length ≤ 60 ∧ (Bk.outs (notes L)).length ≤ 3600 ∧ ∀ f ∈ notes L, f.1.length < 1000000 ∧ f.2.length < 1000000 := by
  have h1 := notes_length L L.length (Nat.le_refl _)
  have h2 := notes_mem L L.length (Nat.le_refl _)
  rw [List.take_of_length_le (Nat.le_refl _)] at h1 h2
  have h3 := outs_le 60 (notes L) (fun f hf => (h.2 f (h2 f hf)).2)
  have h4 := h.1
  refine ⟨by omega, ?_, fun f hf => ?_⟩
  · have : (notes L).length * 60 ≤ 60 * 60 := Nat.mul_le_mul_right 60 (by omega)
    omega
  · have := h.2 f (h2 f hf)
    omega

theorem Bok.low {w w' : World} {base bb n : Nat} {fs : List (List (List UInt8) × List (List UInt8))} {nmf : Lit → Option Value} (h : ∃ S, Bok w base bb fs n nmf S) (k : Kept w.heap.size w.heap.size w w') : ∃ S, Bok w' base bb fs n nmf S := by
  obtain ⟨S, hB⟩ := h
  exact ⟨S, hB.kept k⟩
theorem alikeB_refl (L : List (List UInt8)) : alikeB L L = true := by unfold alikeB; exact beq_self_eq_true L

end Go.Proofs.YtdfbmijbmlainaaDoor
