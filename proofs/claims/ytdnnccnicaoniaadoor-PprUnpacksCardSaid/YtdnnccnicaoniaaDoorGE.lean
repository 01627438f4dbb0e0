/-
  The landed looking about: all that follows, as a set.
-/
import Derived.Test.YtdnnccnicaoniaaDoorGD
import Derived.Deep.LoopGhost
import Derived.Lib.QuietBelow

namespace Go.Proofs.YtdnnccnicaoniaaDoor
open Go.RowKit Go.Lib

/-- How often each fact was met. -/
def Met (w : World) (mb n : Nat) (met : Nat → Nat) : Prop :=
  ∃ f, Mp w 3 mb n f ∧ ∀ i : Nat, f (.int .i64 (i : Int)) = some (.int .i64 (met i : Int)) ∨ (f (.int .i64 (i : Int)) = none ∧ met i = 0)
theorem Met.same {w w' : World} {mb n : Nat} {met : Nat → Nat} (h : Met w mb n met) (hb : w'.heap[mb]? = w.heap[mb]?) : Met w' mb n met := by
  obtain ⟨f, h1, h2⟩ := h
  exact ⟨f, h1.same hb, h2⟩
theorem Met.lt {w : World} {mb n : Nat} {met : Nat → Nat} (h : Met w mb n met) : mb < w.heap.size := by
  obtain ⟨f, h1, _⟩ := h
  exact h1.lt
theorem Met.map {w : World} {mb n : Nat} {met : Nat → Nat} (h : Met w mb n met) : ∃ es c, w.heap[mb]? = some (.map es c) := by
  obtain ⟨f, h1, _⟩ := h
  exact h1.map
theorem int_zero (w : World) : (zeroValue 3).run Tryd.prog w = .ok (.int .i64 0) w := by kernel_rfl
theorem keyOf_num (i : Nat) (hi : i < 1073741824) : keyOf Tryd.prog 3 (.int .i64 (i : Int)) = some (.int .i64 (i : Int)) := Maps.keyOf_int_mk Tryd.underlying3 (WalkArith.wf_i64 (by omega))
theorem needs_some {fs : List (List (List UInt8) × List (List UInt8))} {h : List UInt8} {J : List Nat} (hJ : ∀ i, J.count i = needs fs h i) {t : Nat} (ht : t < J.length) : J[t] < fs.length := by
  have h1 : 0 < J.count J[t] := List.count_pos_iff.2 (List.getElem_mem ht)
  rw [hJ, needs] at h1
  rcases Nat.lt_or_ge J[t] fs.length with h2 | h2
  · exact h2
  · rw [List.getElem?_eq_none h2] at h1
    exact absurd h1 (Nat.lt_irrefl _)

/-- Where a row of numbers lies. -/
theorem OwnI.looks {w : World} {base : Nat} {v : Value} {l : List Nat} (h : OwnI w base v l) : ∃ ad g o c, v = .slice ad l.length c ∧ ∀ i (hi : i < l.length), ad = some ⟨g, o, none⟩ ∧ g < w.heap.size ∧ w.cell? ⟨g, o + i, none⟩ = some (.int .i64 (l[i] : Nat)) := by
  have hlt := h.lt
  have h0 := h
  rcases h.2 with ⟨rfl, hn⟩ | ⟨g, cap, cur, rfl, _⟩
  · exact ⟨none, 0, 0, 0, by rw [hn], fun i hi => by omega⟩
  · exact ⟨some ⟨g, 0, none⟩, g, 0, cap, rfl, fun i hi => ⟨rfl, (hlt g rfl).2, h0.cell i hi⟩⟩

/-- What the looking about wants of a book, in whatever world in which it stays. -/
structure Looks (w : World) (bb : Nat) (fs : List (List (List UInt8) × List (List UInt8))) (S : BokS) (fad : Option Addr) (fg fo fc B : Nat) : Prop where
  c0 : w.cell? ⟨bb, 0, none⟩ = some (.slice fad fs.length fc)
  c2 : w.cell? ⟨bb, 2, none⟩ = some (.map (some S.nm))
  c3 : w.cell? ⟨bb, 3, none⟩ = some S.frv
  lies : ∀ i (hi : i < fs.length), fad = some ⟨fg, fo, none⟩ ∧ ∃ a b, w.cell? ⟨fg, fo + i * 2, none⟩ = some a ∧ w.cell? ⟨fg, fo + i * 2 + 1, none⟩ = some b ∧ Hs w a fs[i].1 ∧ Hs w b fs[i].2 ∧ ∀ ad n c, b = .slice (some ad) n c → fs[i].2 ≠ [] → ad.block < B
theorem Bok.looks {w : World} {base bb b : Nat} {fs : List (List (List UInt8) × List (List UInt8))} {nmf : Lit → Option Value} {S : BokS} (h : Bok w base bb fs b nmf S) : ∃ fad fg fo fc, S.fv = .slice fad fs.length fc ∧ Looks w bb fs S fad fg fo fc w.heap.size := by
  obtain ⟨ad, g, c, hv, hat⟩ := h.facts.at
  refine ⟨ad, g, 0, c, hv, ?_, cells_get (j := 2) h.cells rfl, cells_get (j := 3) h.cells rfl, fun i hi => ?_⟩
  · rw [← hv]
    exact cells_get (j := 0) h.cells rfl
  · obtain ⟨h1, h2, h3, a, b', h4, h5, h6, h7⟩ := hat i hi
    exact ⟨h1, a, b', h4, h5, h6.hs, h7.hs, fun ad n c e _ => by subst e; exact (h7.low _ rfl).2⟩
theorem Looks.kept {w w' : World} {bb : Nat} {fs : List (List (List UInt8) × List (List UInt8))} {S : BokS} {fad : Option Addr} {fg fo fc B : Nat} (h : Looks w bb fs S fad fg fo fc B) (k : Kept w.heap.size w.heap.size w w') : Looks w' bb fs S fad fg fo fc B := by
  have hc : ∀ {a : Addr} {v : Value}, w.cell? a = some v → w'.cell? a = some v := fun {a v} hh => (k.cell (World.block_lt_of_cell? w a hh) (Nat.ne_of_lt (World.block_lt_of_cell? w a hh))).trans hh
  refine ⟨hc h.c0, hc h.c2, hc h.c3, fun i hi => ?_⟩
  obtain ⟨h1, a, b', h4, h5, h6, h7, h8⟩ := h.lies i hi
  exact ⟨h1, a, b', hc h4, hc h5, h6.kept k, h7.kept k, h8⟩

theorem grownBy_refl (w : World) (row : Option Nat) : w.grownBy w row := ⟨rfl, rfl, rfl, Nat.le_refl _, fun _ _ _ => rfl⟩
theorem slice_zero (w : World) : (zeroValue 30).run Tryd.prog w = .ok (.slice none 0 0) w := by kernel_rfl

end Go.Proofs.YtdnnccnicaoniaaDoor
