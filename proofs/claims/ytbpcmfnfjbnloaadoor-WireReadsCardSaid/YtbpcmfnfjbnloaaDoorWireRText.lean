/-
  The reader's calls Text, Flag, End and Hash.
-/
import Derived.Test.YtbpcmfnfjbnloaaDoorWireRNum
import Derived.Laws.CopyOwn
namespace Go.Proofs.YtbpcmfnfjbnloaaDoor
open Go.RowKit

theorem rtext_failed (p : Value) (x most : Int) (w : World) (h : Failed w p x) : Calls Tryd.prog 19 #[p, .int .i64 most] w fun e w' => e = .returned (.string (str [])) ∧ w = w' := by
  have kn := run_convert_bytes_nil w 56 5 Tryd.underlying56 Tryd.underlying5 0 0 _ Tryd.underlying9
  by_cases hm : 65536 < most
  all_goals
    go_enter Tryd.func19, Tryd.ntmps19
    go_wp2_with fail
    refine (num_failed p x _ _ h).mono ?_
    rintro e w' ⟨rfl, rfl⟩
    go_wp2_with fail
    refine (take_failed p x 0 _ h).mono ?_
    rintro e w' ⟨rfl, rfl⟩
    go_wp2
    go_ret
    exact ⟨rfl, rfl⟩

theorem bytes_back (w : World) (b n c : Nat) (ao : Option Addr) (l : List UInt8) (h : Shows w b ao l) (hn : l.length = n) : (convert 56 9 (.slice ao n c)).run Tryd.prog w = .ok (.string (str l)) w := by
  subst hn
  by_cases hl : l = []
  · subst hl
    cases ao with
    | none => exact run_convert_bytes_nil w 56 5 Tryd.underlying56 Tryd.underlying5 0 c _ Tryd.underlying9
    | some a => exact run_convert_bytes_back w _ _ _ a c [] Tryd.underlying56 Tryd.underlying5 Tryd.underlying9 (fun j hj => absurd hj (Nat.not_lt_zero j))
  · obtain ⟨g, o, rfl, _, _, hc⟩ := h (List.length_pos_iff.2 hl)
    refine run_convert_bytes_back w _ _ _ ⟨g, o, none⟩ c l Tryd.underlying56 Tryd.underlying5 Tryd.underlying9 (fun j hj => ?_)
    rw [Addr.add_lit]
    exact hc j hj

/-- What Text answers, and the reader behind it. -/
def TextPost (w : World) (top b : Nat) (r : Wm.Got (List UInt8)) (e : Ending) (w' : World) : Prop := e = .returned (.string (str r.val)) ∧ Rd w' top b r.left r.err ∧ Kept w.heap.size b w w'

theorem rtext_at (top b : Nat) (l : List UInt8) (most m : Int) (hm : (65536 < most ∧ m = 65536) ∨ (¬ 65536 < most ∧ m = most)) (r : Wm.Got Int) (hr : Wm.rNum l m = r) (w : World) (h : Rd w top b l 0) (ht : Tab w) (hb0 : 0 < b) :
    Calls Tryd.prog 19 #[.pointer (some ⟨b, 0, none⟩), .int .i64 most] w fun e w' => TextPost w top b (if r.err = 0 then Wm.rRaw r.left r.val.toNat else ⟨[], [], r.err⟩) e w' := by
  have hv := Wm.rNum_val l m
  have hf := Wm.rNum_fail l m
  rw [hr] at hv hf
  obtain ⟨N, hN⟩ := Int.eq_ofNat_of_zero_le hv.1
  have hv2 : N ≤ 4611686018427387903 := by have := hv.2; omega
  clear hv
  have hcall : ∀ w, Rd w top b l 0 → Tab w → Calls Tryd.prog 17 #[.pointer (some ⟨b, 0, none⟩), .int .i64 m] w fun e w' => e = .returned (.int .i64 N) ∧ Rd w' top b r.left r.err ∧ Kept w.heap.size b w w' := fun w h ht => by
    have := num_run top b l m w h ht hb0
    rw [hr] at this
    refine this.mono ?_
    rintro e w' ⟨rfl, h1, h2⟩
    exact ⟨by rw [hN], h1, h2⟩
  have Hcall := Lib.hid hcall
  clear hcall
  have hNt : r.val.toNat = N := by omega
  rw [hNt]
  have kn := run_convert_bytes_nil (P := Tryd.prog) (w := w) 56 5 Tryd.underlying56 Tryd.underlying5 0 0 _ Tryd.underlying9
  by_cases he : r.err = 0
  · rw [if_pos he]
    clear hf kn hN hNt
    by_cases hs : r.left.length < N
    · have er : Wm.rRaw r.left N = ⟨[], [], 2⟩ := by rw [Wm.rRaw, if_pos hs]
      rw [er]
      clear er
      rcases hm with ⟨hm, rfl⟩ | ⟨hm, rfl⟩
      all_goals
        go_enter Tryd.func19, Tryd.ntmps19
        go_wp2_with fail
        refine (Hcall.out _ h ht).mono ?_
        rintro e w1 ⟨rfl, h1, k1⟩
        rw [he] at h1
        go_wp2_with fail
        refine (take_short top b r.left N _ h1 hs).mono ?_
        rintro e w2 ⟨rfl, h2, k2⟩
        have kn := run_convert_bytes_nil (P := Tryd.prog) (w := w2) 56 5 Tryd.underlying56 Tryd.underlying5 0 0 _ Tryd.underlying9
        go_wp2
        go_ret
        exact ⟨rfl, h2, k1.step k2⟩
    · have er : Wm.rRaw r.left N = ⟨r.left.take N, r.left.drop N, 0⟩ := by rw [Wm.rRaw, if_neg hs]
      rw [er]
      clear er
      have hle : N ≤ r.left.length := by omega
      rcases hm with ⟨hm, rfl⟩ | ⟨hm, rfl⟩
      all_goals
        go_enter Tryd.func19, Tryd.ntmps19
        go_wp2_with fail
        refine (Hcall.out _ h ht).mono ?_
        rintro e w1 ⟨rfl, h1, k1⟩
        rw [he] at h1
        go_wp2_with fail
        refine (take_ok top b r.left N _ h1 hle).mono ?_
        rintro e w2 ⟨ao, c, rfl, hsh, h2, k2⟩
        have kn := bytes_back w2 b N c ao _ hsh (by rw [List.length_take]; omega)
        clear hsh
        go_wp2
        go_ret
        exact ⟨rfl, h2, k1.step k2⟩
  · rw [if_neg he]
    have hv0 := (hf he).1
    have hl0 := (hf he).2
    obtain rfl : N = 0 := by omega
    clear hf hv0 hNt hN
    rcases hm with ⟨hm, rfl⟩ | ⟨hm, rfl⟩
    all_goals
      go_enter Tryd.func19, Tryd.ntmps19
      go_wp2_with fail
      refine (Hcall.out _ h ht).mono ?_
      rintro e w1 ⟨rfl, h1, k1⟩
      rw [hl0] at h1
      go_wp2_with fail
      refine (take_failed _ _ 0 _ (h1.failed he)).mono ?_
      rintro e w2 ⟨rfl, rfl⟩
      have kn := run_convert_bytes_nil (P := Tryd.prog) (w := w1) 56 5 Tryd.underlying56 Tryd.underlying5 0 0 _ Tryd.underlying9
      go_wp2
      go_ret
      exact ⟨rfl, h1, k1⟩

theorem rtext_run (top b : Nat) (l : List UInt8) (most : Int) (w : World) (h : Rd w top b l 0) (ht : Tab w) (hb0 : 0 < b) :
    Calls Tryd.prog 19 #[.pointer (some ⟨b, 0, none⟩), .int .i64 most] w fun e w' => TextPost w top b (Wm.rText l most) e w' :=
  rtext_at top b l most (min most 65536) (by omega) _ rfl w h ht hb0

theorem rflag_failed (p : Value) (x : Int) (w : World) (h : Failed w p x) : Calls Tryd.prog 23 #[p] w fun e w' => e = .returned (.bool false) ∧ w = w' := by
  go_enter Tryd.func23, Tryd.ntmps23
  go_wp2_with (go_at_call 38; refine (take_failed p x 1 _ h).mono ?_; rintro e w' ⟨rfl, rfl⟩)
  go_ret
  exact ⟨rfl, rfl⟩
/-- What Flag answers, and the reader behind it. -/
def FlagPost (w : World) (top b : Nat) (r : Wm.Got Bool) (e : Ending) (w' : World) : Prop := e = .returned (.bool r.val) ∧ Rd w' top b r.left r.err ∧ Kept w.heap.size b w w'
theorem rflag_run (top b : Nat) (l : List UInt8) (w : World) (h : Rd w top b l 0) :
    Calls Tryd.prog 23 #[.pointer (some ⟨b, 0, none⟩)] w fun e w' => FlagPost w top b (Wm.rFlag l) e w' := by
  cases l with
  | nil =>
    go_enter Tryd.func23, Tryd.ntmps23
    go_wp2_with (go_at_call 38; refine (take_short top b [] 1 _ h (by simp)).mono ?_; rintro e w' ⟨rfl, h1, h2⟩)
    go_ret
    exact ⟨rfl, h1, h2⟩
  | cons f t =>
    by_cases hf : 1 < f.toNat
    · have er : Wm.rFlag (f :: t) = ⟨false, [], 3⟩ := by rw [Wm.rFlag, if_pos hf]
      rw [er]
      clear er
      go_enter Tryd.func23, Tryd.ntmps23
      go_wp2_with fail
      refine (take_ok top b (f :: t) 1 _ h (by simp)).mono ?_
      rintro e w1 ⟨ao, c, rfl, hsh, h1, k1⟩
      obtain ⟨g, o, rfl, hgb1, hgb2, hcell⟩ := hsh (by simp)
      have hc := hcell 0 (by simp)
      simp at hc
      clear hcell hsh
      go_wp2_with (go_at_call 25; refine (fail_rd top b _ 0 3 _ h1).mono ?_; rintro e w3 ⟨rfl, h3, k3⟩)
      go_ret
      exact ⟨rfl, by simpa using h3, k1.step k3⟩
    · have h01 : f.toNat = 0 ∨ f.toNat = 1 := by omega
      rcases h01 with h01 | h01
      · have er : Wm.rFlag (f :: t) = ⟨false, t, 0⟩ := by rw [Wm.rFlag, if_neg hf, h01]; rfl
        rw [er]
        clear er
        go_enter Tryd.func23, Tryd.ntmps23
        go_wp2_with fail
        refine (take_ok top b (f :: t) 1 _ h (by simp)).mono ?_
        rintro e w1 ⟨ao, c, rfl, hsh, h1, k1⟩
        obtain ⟨g, o, rfl, hgb1, hgb2, hcell⟩ := hsh (by simp)
        have hc := hcell 0 (by simp)
        simp at hc
        rw [h01] at hc
        clear hcell hsh h01 hf
        go_wp2
        go_ret
        exact ⟨rfl, h1, k1⟩
      · have er : Wm.rFlag (f :: t) = ⟨true, t, 0⟩ := by rw [Wm.rFlag, if_neg hf, h01]; rfl
        rw [er]
        clear er
        go_enter Tryd.func23, Tryd.ntmps23
        go_wp2_with fail
        refine (take_ok top b (f :: t) 1 _ h (by simp)).mono ?_
        rintro e w1 ⟨ao, c, rfl, hsh, h1, k1⟩
        obtain ⟨g, o, rfl, hgb1, hgb2, hcell⟩ := hsh (by simp)
        have hc := hcell 0 (by simp)
        simp at hc
        rw [h01] at hc
        clear hcell hsh h01 hf
        go_wp2
        go_ret
        exact ⟨rfl, h1, k1⟩

theorem rend_failed (p : Value) (x : Int) (w : World) (h : Failed w p x) : Calls Tryd.prog 28 #[p] w fun e w' => e = .returned (.int .i64 x) ∧ w = w' := by
  have hx : (x != 0) = true := by have := h.1; simpa using this
  go_enter Tryd.func28, Tryd.ntmps28
  go_wp2_with (go_at_call 27; refine (err_failed p x _ h).mono ?_; rintro e w' ⟨rfl, rfl⟩)
  go_ret
  exact ⟨rfl, rfl⟩
theorem rend_raw (b n c : Nat) (ao : Option Addr) (r : Int) (hr : (n = 0 ∧ r = 0) ∨ (0 < n ∧ r = 4)) (w : World) (c0 : w.cell? ⟨b, 0, none⟩ = some (.slice ao n c)) (c1 : w.cell? ⟨b, 1, none⟩ = some (.int .i64 0)) :
    Calls Tryd.prog 28 #[.pointer (some ⟨b, 0, none⟩)] w fun e w' => e = .returned (.int .i64 r) ∧ w = w' := by
  rcases hr with ⟨rfl, rfl⟩ | ⟨hn, rfl⟩
  all_goals
    go_enter Tryd.func28, Tryd.ntmps28
    go_wp2_with (go_at_call 27; refine (err_cell b 0 _ c1).mono ?_; rintro e w' ⟨rfl, rfl⟩)
    go_ret
    exact ⟨rfl, rfl⟩
theorem rend_run (top b : Nat) (l : List UInt8) (w : World) (h : Rd w top b l 0) :
    Calls Tryd.prog 28 #[.pointer (some ⟨b, 0, none⟩)] w fun e w' => e = .returned (.int .i64 (if l = [] then 0 else 4)) ∧ w = w' := by
  obtain ⟨ao, c, hb, _⟩ := h.ex
  refine rend_raw b l.length c ao _ ?_ w (two_cell0 hb) (two_cell1 hb)
  by_cases hl : l = []
  · exact .inl ⟨by rw [hl]; rfl, if_pos hl⟩
  · exact .inr ⟨List.length_pos_iff.2 hl, if_neg hl⟩

end Go.Proofs.YtbpcmfnfjbnloaaDoor
