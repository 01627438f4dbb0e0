/-
  A book that the functions of prim note into.
-/
import Derived.Test.YtdfbmijbmlainaaDoorGM
import Derived.Test.YtdfbmijbmlainaaDoorGH

namespace Go.Proofs.YtdfbmijbmlainaaDoor
open Go.RowKit Go.Lib

abbrev Facts := List (List (List UInt8) × List (List UInt8))
/-- Block bb is a book of these facts, of at most n steps; none of its rows of digests lies in a block of X. -/
def InBk (w : World) (base bb : Nat) (fs : Facts) (n : Nat) (X : Nat → Prop) : Prop := ∃ n', n' ≤ n ∧ ∃ S, S.X = X ∧ Bok w base bb fs n' (fun _ => none) S
def InBook (w : World) (base bb : Nat) (fs : Facts) (n : Nat) : Prop := ∃ n', n' ≤ n ∧ ∃ S, Bok w base bb fs n' (fun _ => none) S
theorem InBk.kept {w w' : World} {base bb n : Nat} {fs : Facts} {X : Nat → Prop} (h : InBk w base bb fs n X) (k : Kept w.heap.size w.heap.size w w') : InBk w' base bb fs n X := by
  obtain ⟨n', h1, S, h2, h3⟩ := h
  exact ⟨n', h1, S, h2, h3.kept k⟩
theorem InBook.kept {w w' : World} {base bb n : Nat} {fs : Facts} (h : InBook w base bb fs n) (k : Kept w.heap.size w.heap.size w w') : InBook w' base bb fs n := by
  obtain ⟨n', h1, S, h3⟩ := h
  exact ⟨n', h1, S, h3.kept k⟩
theorem InBook.more {w : World} {base bb n m : Nat} {fs : Facts} (h : InBook w base bb fs n) (hm : n ≤ m) : InBook w base bb fs m := by
  obtain ⟨n', h1, h3⟩ := h
  exact ⟨n', Nat.le_trans h1 hm, h3⟩
theorem InBook.apart {w : World} {base bb n : Nat} {fs : Facts} (h : InBook w base bb fs n) (X : Nat → Prop) (hX : ∀ k, X k → w.heap.size ≤ k) : InBk w base bb fs n X := by
  obtain ⟨n', h1, S, h3⟩ := h
  exact ⟨n', h1, _, rfl, h3.fresh X hX⟩
theorem InBk.book {w : World} {base bb n : Nat} {fs : Facts} {X : Nat → Prop} (h : InBk w base bb fs n X) : InBook w base bb fs n := by
  obtain ⟨n', h1, S, _, h3⟩ := h
  exact ⟨n', h1, S, h3⟩
theorem InBk.put {w : World} {base bb n : Nat} {fs : Facts} {X : Nat → Prop} (h : InBk w base bb fs n X) (g : Nat) (hg : X g) (old cs : Array Value) (fr : Nat × Nat) (hold : w.heap[g]? = some (.cells old 23 fr)) : InBk (w.setRow g cs) base bb fs n X := by
  obtain ⟨n', h1, S, h2, h3⟩ := h
  exact ⟨n', h1, S, h2, h3.put g (by rw [h2]; exact hg) old cs fr hold⟩
theorem BkFr.row {base : Nat} {w w' : World} (h : BkFr base w w') {g : Nat} {cs : Array Value} {fr : Nat × Nat} (r : w.heap[g]? = some (.cells cs 23 fr)) : w'.heap[g]? = some (.cells cs 23 fr) := h.oth _ _ _ _ r (by decide) (by decide) (by decide)
theorem BkFr.put {base : Nat} {w w' : World} (h : BkFr base w w') (hb : base ≤ w.heap.size) (g : Nat) (hg : w.heap.size ≤ g) (cs : Array Value) : BkFr base w (w'.setRow g cs) :=
  ⟨Kept.ofBelow (below_setRow (h.kept.below (Nat.le_refl _) (Nat.le_refl _)) (Nat.le_trans hb hg) cs) (Nat.le_refl _), fun k xs t fr r h1 h2 h3 => by
    rw [setRow_other w' g k cs (fun e => by have := lt_of_block r; omega)]
    exact h.oth k xs t fr r h1 h2 h3⟩
/-- The bounds that a book keeps. -/
def Mild (fs : Facts) (n : Nat) : Prop := n < 1000000 ∧ fs.length < 1000000 ∧ ∀ f ∈ fs, f.1.length < 1000000 ∧ f.2.length < 1000000

set_option maxRecDepth 100000 in
set_option maxHeartbeats 3200000 in
/-- What one secret makes, noted. -/
theorem pnote_book (base bb n : Nat) (fs : Facts) (X : Nat → Prop) (x : List UInt8) (hx : x.length = 32) (outs : List (List UInt8)) (g c : Nat) (b : Value) (w : World) (hB : InBk w base bb fs n X) (hbase : base ≤ w.heap.size) (hX : ∀ k, X k → k < w.heap.size) (hm : Mild fs n) (ho : outs.length < 1000000)
    (hg : w.heap[g]? = some (.cells (bcells x).toArray 23 (0, 0))) (hb : Hs w b outs) (hw : Whole b) :
    Calls Tryd.prog 47 #[.pointer (some ⟨bb, 0, none⟩), .slice (some ⟨g, 0, none⟩) 1 c, b] w fun e w' => e = .returned (.tuple #[]) ∧ InBk w' base bb (Bk.note fs ([x], outs)) (n + 3) X ∧ BkFr base w w' := by
  have hn : Calls Tryd.prog 66 #[.pointer (some ⟨bb, 0, none⟩), .agg #[.slice (some ⟨g, 0, none⟩) 1 c, b]] w fun e w' => (∃ E : Int, e = .returned (.int .i64 E)) ∧ InBk w' base bb (Bk.note fs ([x], outs)) (n + 3) X ∧ BkFr base w w' := by
    obtain ⟨n', h1, S, h2, h3⟩ := hB
    obtain ⟨m1, m2, m3⟩ := hm
    refine (note_callsX base bb n' fs (fun _ => none) S ([x], outs) _ b w h3 hbase (hs_one hx hg) hb (fun _ _ e => by cases e) hw (fun w' hf => hs_one hx (hf.row hg)) (by omega) m2 m3 (by show 1 < _; decide) ho (by rw [h2]; exact hX)).mono ?_
    rintro e w' ⟨rfl, ⟨n2, hn2, S2, hS2, hB2⟩, hf⟩
    have hl : ([x] : List (List UInt8)).length = 1 := rfl
    refine ⟨⟨_, rfl⟩, ⟨n2, ?_, S2, hS2.trans h2, hB2⟩, hf⟩
    have : n2 ≤ n' + 1 + 2 := hn2
    omega
  obtain ⟨zp1, bad, bg, bo, bc, rfl, zp2⟩ := id hb
  clear zp1 zp2 hB hbase hX hm ho hg hb hw
  have HN := Lib.hid hn
  clear hn
  go_enter Tryd.func47, Tryd.ntmps47
  go_wp2_with (go_at_call 66; refine HN.out.mono ?_; rintro e w2 ⟨⟨E, rfl⟩, k2, f2⟩)
  go_end0
  exact ⟨rfl, k2, f2⟩

end Go.Proofs.YtdfbmijbmlainaaDoor
