/-
  The document's own reader: a text, a flag, a digest, a failing, an end.
-/
import Derived.Test.YtdnnccnicaoniaaDoorWireRefAll

namespace Go.Proofs.YtdnnccnicaoniaaDoor
open Go.RowKit

theorem gNum_val (l : List UInt8) (e most : Int) : 0 ≤ (gNum l e most).val := by
  unfold gNum
  split
  · exact (Wm.rNum_val l most).1
  · exact Int.le_refl 0

theorem failrd_ok (c : Nat) (x : Int) (w : World) (c1 : w.cell? ⟨c, 1, none⟩ = some (.int .i64 0)) (f1 : w.frozen? ⟨c, 1, none⟩ = false) :
    Calls Tryd.prog 36 #[.pointer (some ⟨c, 0, none⟩), .int .i64 x] w fun e w' => e = .returned (.tuple #[]) ∧ w.setCell ⟨c, 1, none⟩ (.int .i64 x) = w' := by
  go_enter Tryd.func36, Tryd.ntmps36
  go_wp2
  go_end0
  exact ⟨rfl, rfl⟩
theorem failrd_again (c : Nat) (e0 x : Int) (w : World) (c1 : w.cell? ⟨c, 1, none⟩ = some (.int .i64 e0)) (hx : (e0 == 0) = false) :
    Calls Tryd.prog 36 #[.pointer (some ⟨c, 0, none⟩), .int .i64 x] w fun e w' => e = .returned (.tuple #[]) ∧ w = w' := by
  go_enter Tryd.func36, Tryd.ntmps36
  go_wp2
  go_end0
  exact ⟨rfl, rfl⟩
theorem failrd_all (c : Nat) (l : List UInt8) (e0 x : Int) (w : World) (h : Rf w c l e0) :
    Calls Tryd.prog 36 #[.pointer (some ⟨c, 0, none⟩), .int .i64 x] w fun e w' => e = .returned (.tuple #[]) ∧ Rf w' c (if e0 = 0 ∧ x ≠ 0 then [] else l) (if e0 = 0 then x else e0) ∧ Kept w.heap.size c w w' := by
  obtain ⟨s, hb, hs⟩ := h.ex
  by_cases h0 : e0 = 0
  · subst h0
    refine (failrd_ok c x w (two_cell1 hb) (two_free hb 1)).mono ?_
    rintro e w' ⟨rfl, rfl⟩
    refine ⟨rfl, ?_, (Kept.refl _ _ _).set (.inl rfl) 1 _⟩
    rw [if_pos rfl]
    refine ⟨⟨s, two_set1 hb, fun hx => ?_⟩, fun hx => by rw [if_pos ⟨rfl, hx⟩]⟩
    rw [if_neg (fun h => h.2 hx)]
    exact hs rfl
  · refine (failrd_again c e0 x w (two_cell1 hb) (by simpa using h0)).mono ?_
    rintro e w' ⟨rfl, rfl⟩
    rw [if_neg (fun h => h0 h.1), if_neg h0]
    exact ⟨rfl, h, Kept.refl _ _ _⟩

theorem endrd_all (c : Nat) (l : List UInt8) (e0 : Int) (w : World) (h : Rf w c l e0) :
    Calls Tryd.prog 38 #[.pointer (some ⟨c, 0, none⟩)] w fun e w' => e = .returned (.int .i64 (gEnd l e0)) ∧ w' = w := by
  obtain ⟨s, hb, hs⟩ := h.ex
  have c0 := two_cell0 hb
  have c1 := two_cell1 hb
  unfold gEnd
  by_cases h0 : e0 = 0
  · subst h0
    obtain rfl := hs rfl
    rw [if_pos rfl]
    have hsz := str_size l
    by_cases hl : l = []
    · subst hl
      rw [if_pos rfl]
      clear hb hs h
      go_enter Tryd.func38, Tryd.ntmps38
      go_wp2
      go_ret
      exact ⟨rfl, rfl⟩
    · rw [if_neg hl]
      have hpos : 0 < (str l).size := by rw [hsz]; exact List.length_pos_iff.2 hl
      clear hb hs h hsz
      go_enter Tryd.func38, Tryd.ntmps38
      go_wp2
      go_ret
      exact ⟨rfl, rfl⟩
  · rw [if_neg h0]
    have hx : (e0 != 0) = true := by simpa using h0
    clear hb hs h
    go_enter Tryd.func38, Tryd.ntmps38
    go_wp2
    go_ret
    exact ⟨rfl, rfl⟩

/-! ## Flag -/
def FlagFin (w : World) (c : Nat) (r : Wm.Got Bool) (e : Ending) (w' : World) : Prop := e = .returned (.bool r.val) ∧ Rf w' c r.left r.err ∧ Kept w.heap.size c w w'
end Go.Proofs.YtdnnccnicaoniaaDoor
