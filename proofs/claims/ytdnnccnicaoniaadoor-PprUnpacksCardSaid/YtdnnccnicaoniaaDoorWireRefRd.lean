/-
  The document's own reader: a number, a text, a digest, a flag, the failing, the end.
-/
import Derived.Test.YtdnnccnicaoniaaDoorWireAll
import Derived.Test.YtdnnccnicaoniaaDoorGV
import Derived.Test.YtdnnccnicaoniaaDoorWireNilLaw

namespace Go.Proofs.YtdnnccnicaoniaaDoor
open Go.RowKit

/-- The document's own reader at block c: what is left, and its error. -/
structure Rf (w : World) (c : Nat) (l : List UInt8) (e : Int) : Prop where
  ex : ∃ s, w.heap[c]? = some (.cells #[.string s, .int .i64 e] 78 (0, 0)) ∧ (e = 0 → s = str l)
  fail : e ≠ 0 → l = []
theorem Rf.same {w w' : World} {c : Nat} {l : List UInt8} {e : Int} (h : Rf w c l e) (hb : w'.heap[c]? = w.heap[c]?) : Rf w' c l e := by
  obtain ⟨s, h1, h2⟩ := h.ex
  exact ⟨⟨s, hb.trans h1, h2⟩, h.fail⟩
theorem Rf.lt {w : World} {c : Nat} {l : List UInt8} {e : Int} (h : Rf w c l e) : c < w.heap.size := by
  obtain ⟨s, h1, _⟩ := h.ex
  exact (Array.getElem?_eq_some_iff.1 h1).1
theorem Rf.kept {w w' : World} {c base r : Nat} {l : List UInt8} {e : Int} (h : Rf w c l e) (k : Kept base r w w') (hB : c < base) (hr : c ≠ r) : Rf w' c l e :=
  h.same (k.block c hB hr)
theorem Rf.alloc {w : World} {c : Nat} {l : List UInt8} {e : Int} (h : Rf w c l e) (o : Obj) : Rf (w.alloc o) c l e := h.same (Below.heap_alloc _ _ _ h.lt)
theorem Rf.err {w : World} {c : Nat} {l : List UInt8} {e : Int} (h : Rf w c l e) : w.cell? ⟨c, 1, none⟩ = some (.int .i64 e) := by
  obtain ⟨s, h1, _⟩ := h.ex
  exact two_cell1 h1
theorem Rf.setErr {w : World} {c : Nat} {s : ByteArray} {x : Value} (e : Int) (he : e ≠ 0) (h : w.heap[c]? = some (.cells #[.string s, x] 78 (0, 0))) : Rf (w.setCell ⟨c, 1, none⟩ (.int .i64 e)) c [] e :=
  ⟨⟨s, two_set1 h, fun h => absurd h he⟩, fun _ => rfl⟩

/-- A string answered, and the document's own reader behind it. -/
def StrPost (w : World) (c : Nat) (r : Wm.Got (List UInt8)) (e : Ending) (w' : World) : Prop := e = .returned (.string (str r.val)) ∧ Rf w' c r.left r.err ∧ Kept w.heap.size c w w'
def gRaw (l : List UInt8) (e : Int) (n : Nat) : Wm.Got (List UInt8) := if e = 0 then Wm.rRaw l n else ⟨[], [], e⟩

theorem refraw_failed (c : Nat) (l : List UInt8) (e0 : Int) (n : Int) (w : World) (h : Rf w c l e0) (he : e0 ≠ 0) :
    Calls Tryd.prog 58 #[.pointer (some ⟨c, 0, none⟩), .int .i64 n] w fun e w' => e = .returned (.string (str [])) ∧ w = w' := by
  have hx : (e0 != 0) = true := by simpa using he
  have c1 := h.err
  clear h
  go_enter Tryd.func58, Tryd.ntmps58
  go_wp2
  go_ret
  exact ⟨rfl, rfl⟩
theorem refraw_short (c : Nat) (s : ByteArray) (n : Nat) (w : World) (h0 : w.cell? ⟨c, 0, none⟩ = some (.string s)) (h1 : w.cell? ⟨c, 1, none⟩ = some (.int .i64 0)) (f1 : w.frozen? ⟨c, 1, none⟩ = false) (hs : s.size < n) :
    Calls Tryd.prog 58 #[.pointer (some ⟨c, 0, none⟩), .int .i64 n] w fun e w' => e = .returned (.string (str [])) ∧ w.setCell ⟨c, 1, none⟩ (.int .i64 2) = w' := by
  go_enter Tryd.func58, Tryd.ntmps58
  go_wp2
  go_ret
  exact ⟨rfl, rfl⟩
theorem refraw_ok (c : Nat) (s : ByteArray) (n : Nat) (w : World) (h0 : w.cell? ⟨c, 0, none⟩ = some (.string s)) (h1 : w.cell? ⟨c, 1, none⟩ = some (.int .i64 0)) (f0 : w.frozen? ⟨c, 0, none⟩ = false) (hs : n ≤ s.size) :
    Calls Tryd.prog 58 #[.pointer (some ⟨c, 0, none⟩), .int .i64 n] w fun e w' => e = .returned (.string (s.extract 0 n)) ∧ w.setCell ⟨c, 0, none⟩ (.string (s.extract n s.size)) = w' := by
  have h9 : ¬ s.size < n := by omega
  go_enter Tryd.func58, Tryd.ntmps58
  go_wp2
  go_ret
  exact ⟨rfl, rfl⟩

theorem refraw_all (c : Nat) (l : List UInt8) (e0 : Int) (n : Nat) (w : World) (h : Rf w c l e0) :
    Calls Tryd.prog 58 #[.pointer (some ⟨c, 0, none⟩), .int .i64 n] w fun e w' => StrPost w c (gRaw l e0 n) e w' := by
  unfold gRaw
  split
  · rename_i he
    subst he
    obtain ⟨s, hb, hs⟩ := h.ex
    obtain rfl := hs rfl
    unfold Wm.rRaw
    split
    · rename_i hlt
      refine (refraw_short c (str l) n w (two_cell0 hb) (two_cell1 hb) (two_free hb 1) (by rw [str_size]; exact hlt)).mono ?_
      rintro e w' ⟨rfl, rfl⟩
      exact ⟨rfl, Rf.setErr 2 (by decide) hb, (Kept.refl _ _ _).set (.inl rfl) 1 _⟩
    · rename_i hlt
      refine (refraw_ok c (str l) n w (two_cell0 hb) (two_cell1 hb) (two_free hb 0) (by rw [str_size]; omega)).mono ?_
      rintro e w' ⟨rfl, rfl⟩
      exact ⟨by rw [str_take], ⟨⟨_, two_set0 hb, fun _ => str_drop l n⟩, fun h => absurd rfl h⟩, (Kept.refl _ _ _).set (.inl rfl) 0 _⟩
  · rename_i he
    obtain rfl := h.fail he
    refine (refraw_failed c _ e0 n w h he).mono ?_
    rintro e w' ⟨rfl, rfl⟩
    exact ⟨rfl, h, Kept.refl _ _ _⟩


/-! ## Num -/
theorem numrd_failed (c : Nat) (e0 : Int) (most : Int) (w : World) (c1 : w.cell? ⟨c, 1, none⟩ = some (.int .i64 e0)) (hx : (e0 != 0) = true) :
    Calls Tryd.prog 35 #[.pointer (some ⟨c, 0, none⟩), .int .i64 most] w fun e w' => e = .returned (.int .i64 0) ∧ w = w' := by
  go_enter Tryd.func35, Tryd.ntmps35
  go_wp2
  go_ret
  exact ⟨rfl, rfl⟩
theorem numrd_empty (c : Nat) (most : Int) (w : World) (c0 : w.cell? ⟨c, 0, none⟩ = some (.string (str []))) (c1 : w.cell? ⟨c, 1, none⟩ = some (.int .i64 0)) (f1 : w.frozen? ⟨c, 1, none⟩ = false) :
    Calls Tryd.prog 35 #[.pointer (some ⟨c, 0, none⟩), .int .i64 most] w fun e w' => e = .returned (.int .i64 0) ∧ w.setCell ⟨c, 1, none⟩ (.int .i64 2) = w' := by
  have hz : (str []).size = 0 := rfl
  go_enter Tryd.func35, Tryd.ntmps35
  go_wp2
  go_ret
  exact ⟨rfl, rfl⟩

/-! ## Flag -/
theorem flag_raw (l : List UInt8) (e : Int) : gFlag l e = if (gRaw l e 1).err = 0 then (match (gRaw l e 1).val with | [f] => if 1 < f.toNat then ⟨false, [], 3⟩ else ⟨f.toNat == 1, (gRaw l e 1).left, 0⟩ | _ => ⟨false, [], 2⟩) else ⟨false, [], (gRaw l e 1).err⟩ := by
  unfold gFlag gRaw
  by_cases he : e = 0
  · subst he
    rw [if_pos rfl, if_pos rfl]
    cases l with
    | nil => rfl
    | cons f t => simp [Wm.rFlag, Wm.rRaw]
  · rw [if_neg he, if_neg he]
    show _ = if e = 0 then _ else _
    rw [if_neg he]

end Go.Proofs.YtdnnccnicaoniaaDoor
