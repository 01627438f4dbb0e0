/-
  The document's own reader: a text, a flag, a digest, a failing, an end.
-/
import Derived.Test.YtbpcmfnfjbnloaaDoorWireRefAll
namespace Go.Proofs.YtbpcmfnfjbnloaaDoor
open Go.RowKit

theorem gNum_val (l : List UInt8) (e most : Int) : 0 ≤ (gNum l e most).val := by
  unfold gNum
  split
  · exact (Wm.rNum_val l most).1
  · exact Int.le_refl 0

theorem textrd_all (c : Nat) (l : List UInt8) (e0 most : Int) (w : World) (h : Rf w c l e0) :
    Calls Tryd.prog 20 #[.pointer (some ⟨c, 0, none⟩), .int .i64 most] w fun e w' => StrPost w c (gText l e0 most) e w' := by
  have key : ∀ m, m = min most 65536 → gText l e0 most = if (gNum l e0 m).err = 0 then Wm.rRaw (gNum l e0 m).left (gNum l e0 m).val.toNat else ⟨[], [], (gNum l e0 m).err⟩ := by
    rintro m rfl
    unfold gText gNum
    by_cases he : e0 = 0
    · rw [if_pos he, if_pos he]
      rfl
    · rw [if_neg he, if_neg he]
      show _ = if e0 = 0 then _ else _
      rw [if_neg he]
  by_cases hm : 65536 < most
  · rw [key 65536 (by omega)]
    exact textrd_at c l e0 most 65536 (.inl ⟨hm, rfl⟩) _ rfl (gNum_val l e0 _) w h
  · rw [key most (by omega)]
    exact textrd_at c l e0 most most (.inr ⟨hm, rfl⟩) _ rfl (gNum_val l e0 _) w h

/-! ## Fail, End -/
theorem failrd_ok (c : Nat) (x : Int) (w : World) (c1 : w.cell? ⟨c, 1, none⟩ = some (.int .i64 0)) (f1 : w.frozen? ⟨c, 1, none⟩ = false) :
    Calls Tryd.prog 26 #[.pointer (some ⟨c, 0, none⟩), .int .i64 x] w fun e w' => e = .returned (.tuple #[]) ∧ w.setCell ⟨c, 1, none⟩ (.int .i64 x) = w' := by
  go_enter Tryd.func26, Tryd.ntmps26
  go_wp2
  go_end0
  exact ⟨rfl, rfl⟩
theorem failrd_again (c : Nat) (e0 x : Int) (w : World) (c1 : w.cell? ⟨c, 1, none⟩ = some (.int .i64 e0)) (hx : (e0 == 0) = false) :
    Calls Tryd.prog 26 #[.pointer (some ⟨c, 0, none⟩), .int .i64 x] w fun e w' => e = .returned (.tuple #[]) ∧ w = w' := by
  go_enter Tryd.func26, Tryd.ntmps26
  go_wp2
  go_end0
  exact ⟨rfl, rfl⟩
theorem failrd_all (c : Nat) (l : List UInt8) (e0 x : Int) (w : World) (h : Rf w c l e0) :
    Calls Tryd.prog 26 #[.pointer (some ⟨c, 0, none⟩), .int .i64 x] w fun e w' => e = .returned (.tuple #[]) ∧ Rf w' c (if e0 = 0 ∧ x ≠ 0 then [] else l) (if e0 = 0 then x else e0) ∧ Kept w.heap.size c w w' := by
  obtain ⟨s, hb, hs⟩ := h.ex
  by_cases h0 : e0 = 0
  · subst h0
    refine (failrd_ok c x w (two_cell1 hb) (two_free hb 1)).mono ?_
    rintro e w' ⟨rfl, rfl⟩
    refine ⟨rfl, ?_, (Kept.refl _ _ _).set (.inl rfl) 1 _⟩
    rw [if_pos rfl]
    refine ⟨⟨s, two_set1 hb, fun hx => ?_⟩, fun hx => by rw [if_pos ⟨rfl, hx⟩]⟩
    rw [if_neg (fun h => h.2 hx)]
    exact hs rfl
  · refine (failrd_again c e0 x w (two_cell1 hb) (by simpa using h0)).mono ?_
    rintro e w' ⟨rfl, rfl⟩
    rw [if_neg (fun h => h0 h.1), if_neg h0]
    exact ⟨rfl, h, Kept.refl _ _ _⟩

theorem endrd_all (c : Nat) (l : List UInt8) (e0 : Int) (w : World) (h : Rf w c l e0) :
    Calls Tryd.prog 29 #[.pointer (some ⟨c, 0, none⟩)] w fun e w' => e = .returned (.int .i64 (gEnd l e0)) ∧ w' = w := by
  obtain ⟨s, hb, hs⟩ := h.ex
  have c0 := two_cell0 hb
  have c1 := two_cell1 hb
  unfold gEnd
  by_cases h0 : e0 = 0
  · subst h0
    obtain rfl := hs rfl
    rw [if_pos rfl]
    have hsz := str_size l
    by_cases hl : l = []
    · subst hl
      rw [if_pos rfl]
      clear hb hs h
      go_enter Tryd.func29, Tryd.ntmps29
      go_wp2
      go_ret
      exact ⟨rfl, rfl⟩
    · rw [if_neg hl]
      have hpos : 0 < (str l).size := by rw [hsz]; exact List.length_pos_iff.2 hl
      clear hb hs h hsz
      go_enter Tryd.func29, Tryd.ntmps29
      go_wp2
      go_ret
      exact ⟨rfl, rfl⟩
  · rw [if_neg h0]
    have hx : (e0 != 0) = true := by simpa using h0
    clear hb hs h
    go_enter Tryd.func29, Tryd.ntmps29
    go_wp2
    go_ret
    exact ⟨rfl, rfl⟩

/-! ## Flag -/
def FlagFin (w : World) (c : Nat) (r : Wm.Got Bool) (e : Ending) (w' : World) : Prop := e = .returned (.bool r.val) ∧ Rf w' c r.left r.err ∧ Kept w.heap.size c w w'
theorem flagrd_all (c : Nat) (l : List UInt8) (e0 : Int) (w : World) (h : Rf w c l e0) :
    Calls Tryd.prog 24 #[.pointer (some ⟨c, 0, none⟩)] w fun e w' => FlagFin w c (gFlag l e0) e w' := by
  rw [flag_raw]
  have hraw := refraw_all c l e0 1 w h
  have hval : (gRaw l e0 1).err = 0 → ∃ f, (gRaw l e0 1).val = [f] := by
    unfold gRaw
    split
    · cases l with
      | nil => intro h; simp [Wm.rRaw] at h
      | cons f t => intro _; exact ⟨f, by simp [Wm.rRaw]⟩
    · rename_i h0
      intro h
      exact absurd h h0
  generalize gRaw l e0 1 = r at *
  have Hraw := Lib.hid hraw
  clear hraw h
  by_cases he : r.err = 0
  · obtain ⟨f, hf⟩ := hval he
    rw [if_pos he, hf]
    have Hf := Lib.hid hf
    have h256 := f.toNat_lt
    have he2 : (r.err != 0) = false := by simpa using he
    have He := Lib.hid he
    clear hval hf he
    rcases (show f = 0 ∨ f = 1 ∨ (1 < f.toNat) by
      by_cases h0 : f.toNat = 0
      · left; exact UInt8.toNat_inj.1 h0
      · by_cases h1 : f.toNat = 1
        · right; left; exact UInt8.toNat_inj.1 h1
        · right; right; omega) with rfl | rfl | hbig
    · go_enter Tryd.func24, Tryd.ntmps24
      go_wp2_with fail
      refine Hraw.out.mono ?_
      rintro e w1 ⟨rfl, h1, k1⟩
      have c1 := h1.err
      rw [Hf.out]
      go_wp2
      go_ret
      exact ⟨rfl, by rw [He.out] at h1; exact h1, k1⟩
    · go_enter Tryd.func24, Tryd.ntmps24
      go_wp2_with fail
      refine Hraw.out.mono ?_
      rintro e w1 ⟨rfl, h1, k1⟩
      have c1 := h1.err
      rw [Hf.out]
      go_wp2
      go_ret
      exact ⟨rfl, by rw [He.out] at h1; exact h1, k1⟩
    · have Hbig := Lib.hid hbig
      have n0 : (f == 0) = false := by
        rw [beq_eq_false_iff_ne]; rintro rfl; simp at hbig
      have n1 : (f == 1) = false := by
        rw [beq_eq_false_iff_ne]; rintro rfl; simp at hbig
      clear hbig
      go_enter Tryd.func24, Tryd.ntmps24
      go_wp2_with fail
      refine Hraw.out.mono ?_
      rintro e w1 ⟨rfl, h1, k1⟩
      have c1 := h1.err
      obtain ⟨s1, hb1, _⟩ := h1.ex
      have f1 := two_free hb1 1
      have Hb1 := Lib.hid hb1
      clear hb1
      rw [Hf.out]
      go_wp2
      go_ret
      exact ⟨rfl, Rf.setErr 3 (by decide) Hb1.out, k1.set (.inl rfl) 1 _⟩
  · rw [if_neg he]
    have he2 : (r.err != 0) = true := by simpa using he
    clear hval
    go_enter Tryd.func24, Tryd.ntmps24
    go_wp2_with fail
    refine Hraw.out.mono ?_
    rintro e w1 ⟨rfl, h1, k1⟩
    have c1 := h1.err
    go_wp2
    go_ret
    have := h1.fail he
    rw [this] at h1
    exact ⟨rfl, h1, k1⟩

end Go.Proofs.YtbpcmfnfjbnloaaDoor
