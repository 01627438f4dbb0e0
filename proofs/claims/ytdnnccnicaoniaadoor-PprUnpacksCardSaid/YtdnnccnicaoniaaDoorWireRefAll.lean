/-
  The document's own reader, whatever it holds: a number, a text, a flag, a failing, an end.
-/
import Derived.Test.YtdnnccnicaoniaaDoorWireRefNum

namespace Go.Proofs.YtdnnccnicaoniaaDoor
open Go.RowKit

theorem numAcc (f : UInt8) (t : List UInt8) (hl : Wm.more f ≤ t.length) : NumAcc (str (f :: t)) f.toNat (Wm.more f + 1) (fun j => ((Wm.valOf (f.toNat % 64) (t.take (j - 1)) : Nat) : Int)) := by
  have hm := Wm.more_cases f
  refine ⟨by show ((Wm.valOf (f.toNat % 64) [] : Nat) : Int) = _; simp [Wm.valOf], fun j h h1 hj => ?_, fun j h1 hj => ?_⟩
  · obtain ⟨i, rfl⟩ : ∃ i, j = i + 1 := ⟨j - 1, by omega⟩
    have hi : i < t.length := by omega
    show ((Wm.valOf (f.toNat % 64) (t.take (i + 1)) : Nat) : Int) = ((Wm.valOf (f.toNat % 64) (t.take i) : Nat) : Int) * 256 + _
    rw [List.take_succ_eq_append_getElem hi, Wm.valOf_snoc, str_at _ _ h (by rw [List.length_cons]; omega), List.getElem_cons_succ]
    omega
  · obtain ⟨i, rfl⟩ : ∃ i, j = i + 1 := ⟨j - 1, by omega⟩
    refine ⟨Int.natCast_nonneg _, ?_⟩
    show ((Wm.valOf (f.toNat % 64) (t.take i) : Nat) : Int) < _
    have h6 : i ≤ 6 := by omega
    have hlen : (t.take i).length = i := by rw [List.length_take]; omega
    have h2 := Wm.valOf_lt (t.take i)
    rw [Wm.valOf_eq]
    rw [hlen] at h2 ⊢
    have h3 : f.toNat % 64 < 64 := Nat.mod_lt _ (by decide)
    have h4 : 256 ^ i ≤ 256 ^ 6 := Nat.pow_le_pow_right (by decide) h6
    have h5 : (f.toNat % 64 + 1) * 256 ^ i ≤ 64 * 256 ^ 6 := Nat.mul_le_mul (by omega) h4
    have h7 : f.toNat % 64 * 256 ^ i + Wm.valOf 0 (t.take i) < 64 * 256 ^ 6 := by
      rw [Nat.add_mul] at h5
      omega
    have h8 : (64 * 256 ^ 6 : Nat) = 18014398509481984 := by decide
    rw [h8] at h7
    exact Int.ofNat_lt.2 h7

theorem numrd_long (c : Nat) (f : UInt8) (t : List UInt8) (most : Int) (w : World) (hb : w.heap[c]? = some (.cells #[.string (str (f :: t)), .int .i64 0] 78 (0, 0))) (hl : Wm.more f ≤ t.length) (x : Int)
    (hx : Hid ((x = 3 ∧ (Wm.enc (Wm.nval f t) == f :: t.take (Wm.more f)) = false) ∨ (x = 5 ∧ (Wm.enc (Wm.nval f t) == f :: t.take (Wm.more f)) = true ∧ most < (Wm.nval f t : Int)) ∨ (x = 0 ∧ (Wm.enc (Wm.nval f t) == f :: t.take (Wm.more f)) = true ∧ (Wm.nval f t : Int) ≤ most))) :
    Calls Tryd.prog 35 #[.pointer (some ⟨c, 0, none⟩), .int .i64 most] w fun e w' => NumRd w c (str (f :: t)) (Wm.more f + 1) (Wm.nval f t) x e w' := by
  have hA := numAcc f t hl
  have hsz : (str (f :: t)).size = t.length + 1 := by rw [str_size, List.length_cons]
  have hz : ((str (f :: t)).size == 0) = false := by rw [hsz]; simp
  have hz2 : 0 < (str (f :: t)).size := by omega
  have h256 := f.toNat_lt
  have hF : Hid (wrap64 (((str (f :: t))[0]'hz2).toNat : Int) = (f.toNat : Int)) := Lib.hid (by
    rw [str_at _ _ hz2 (by simp)]
    exact IntWalk.wrap64_in (f.toNat : Int) ⟨by omega, by omega⟩)
  have hB : Hid ((str (f :: t)).extract 0 (Wm.more f + 1) = str (f :: t.take (Wm.more f))) := Lib.hid (by rw [str_take, List.take_succ_cons])
  have hm : Hid (((Wm.valOf (f.toNat % 64) (t.take (Wm.more f + 1 - 1)) : Nat) : Int) = (Wm.nval f t : Int)) := Lib.hid rfl
  have hm2 : Hid (Wm.nval f t ≤ 4611686018427387903) := Lib.hid (Wm.nval_max f t hl)
  rcases Wm.more_cases f with ⟨hq, hk⟩ | ⟨hq, hk⟩ | ⟨hq, hk⟩ | ⟨hq, hk⟩
  · rw [hk] at hA hB hm hx hl ⊢
    exact numrd_long0 c _ f.toNat most w hb hz hz2 hF (by omega) (by omega) (by omega) (by omega) _ hA _ hm hm2 x _ hB hx
  · rw [hk] at hA hB hm hx hl ⊢
    exact numrd_long1 c _ f.toNat most w hb hz hz2 hF (by omega) (by omega) (by omega) (by omega) _ hA _ hm hm2 x _ hB hx
  · rw [hk] at hA hB hm hx hl ⊢
    exact numrd_long2 c _ f.toNat most w hb hz hz2 hF (by omega) (by omega) (by omega) (by omega) _ hA _ hm hm2 x _ hB hx
  · rw [hk] at hA hB hm hx hl ⊢
    exact numrd_long3 c _ f.toNat most w hb hz hz2 hF (by omega) (by omega) (by omega) (by omega) _ hA _ hm hm2 x _ hB hx

theorem numrd_short (c : Nat) (f : UInt8) (t : List UInt8) (most : Int) (w : World) (hb : w.heap[c]? = some (.cells #[.string (str (f :: t)), .int .i64 0] 78 (0, 0))) (hl : t.length < Wm.more f) :
    Calls Tryd.prog 35 #[.pointer (some ⟨c, 0, none⟩), .int .i64 most] w fun e w' => e = .returned (.int .i64 0) ∧ w.setCell ⟨c, 1, none⟩ (.int .i64 2) = w' := by
  have hsz : (str (f :: t)).size = t.length + 1 := by rw [str_size, List.length_cons]
  have hz : ((str (f :: t)).size == 0) = false := by rw [hsz]; simp
  have hz2 : 0 < (str (f :: t)).size := by omega
  have h256 := f.toNat_lt
  have hF : Hid (wrap64 (((str (f :: t))[0]'hz2).toNat : Int) = (f.toNat : Int)) := Lib.hid (by
    rw [str_at _ _ hz2 (by simp)]
    exact IntWalk.wrap64_in (f.toNat : Int) ⟨by omega, by omega⟩)
  rcases Wm.more_cases f with ⟨hq, hk⟩ | ⟨hq, hk⟩ | ⟨hq, hk⟩ | ⟨hq, hk⟩
  · omega
  · exact numrd_short1 c _ f.toNat most w (two_cell0 hb) (two_cell1 hb) (two_free hb 1) hz hz2 hF (by omega) (by omega) (by omega)
  · exact numrd_short2 c _ f.toNat most w (two_cell0 hb) (two_cell1 hb) (two_free hb 1) hz hz2 hF (by omega) (by omega) (by omega)
  · exact numrd_short3 c _ f.toNat most w (two_cell0 hb) (two_cell1 hb) (two_free hb 1) hz hz2 hF (by omega) (by omega) (by omega)

/-- A number answered, and the document's own reader behind it. -/
def NumFin (w : World) (c : Nat) (r : Wm.Got Int) (e : Ending) (w' : World) : Prop := e = .returned (.int .i64 r.val) ∧ Rf w' c r.left r.err ∧ Kept w.heap.size c w w'

theorem numrd_fin (c : Nat) (f : UInt8) (t : List UInt8) (w : World) (hb : w.heap[c]? = some (.cells #[.string (str (f :: t)), .int .i64 0] 78 (0, 0))) (x : Int) (e : Ending) (w' : World)
    (h : NumRd w c (str (f :: t)) (Wm.more f + 1) (Wm.nval f t) x e w') : NumFin w c (if x = 0 then ⟨Wm.nval f t, t.drop (Wm.more f), 0⟩ else ⟨0, [], x⟩) e w' := by
  obtain ⟨w2, k2, h⟩ := h
  have hc := (Array.getElem?_eq_some_iff.1 hb).1
  have hb2 : w2.heap[c]? = some (.cells #[.string ((str (f :: t)).extract (Wm.more f + 1) (str (f :: t)).size), .int .i64 0] 78 (0, 0)) := (k2.block c hc (by omega)).trans (two_set0 hb)
  have kk : Kept w.heap.size c w w2 := ((Kept.refl _ _ _).set (.inl rfl) 0 _).trans (k2.mono (Nat.le_refl _) (fun k hk _ => by omega))
  rcases h with ⟨rfl, rfl, rfl⟩ | ⟨hx, rfl, rfl⟩
  · rw [if_pos rfl]
    exact ⟨rfl, ⟨⟨_, hb2, fun _ => by rw [str_drop, List.drop_succ_cons]⟩, fun h => absurd rfl h⟩, kk⟩
  · rw [if_neg hx]
    exact ⟨rfl, Rf.setErr x hx hb2, kk.set (.inl rfl) 1 _⟩

theorem numrd_all (c : Nat) (l : List UInt8) (e0 most : Int) (w : World) (h : Rf w c l e0) :
    Calls Tryd.prog 35 #[.pointer (some ⟨c, 0, none⟩), .int .i64 most] w fun e w' => NumFin w c (gNum l e0 most) e w' := by
  unfold gNum
  split
  · rename_i he
    subst he
    obtain ⟨s, hb, hs⟩ := h.ex
    obtain rfl := hs rfl
    cases l with
    | nil =>
      refine (numrd_empty c most w (two_cell0 hb) (two_cell1 hb) (two_free hb 1)).mono ?_
      rintro e w' ⟨rfl, rfl⟩
      exact ⟨rfl, Rf.setErr 2 (by decide) hb, (Kept.refl _ _ _).set (.inl rfl) 1 _⟩
    | cons f t =>
      rw [Wm.rNum]
      split
      · rename_i hl
        refine (numrd_short c f t most w hb hl).mono ?_
        rintro e w' ⟨rfl, rfl⟩
        exact ⟨rfl, Rf.setErr 2 (by decide) hb, (Kept.refl _ _ _).set (.inl rfl) 1 _⟩
      · rename_i hl
        have hl2 : Wm.more f ≤ t.length := by omega
        split
        · rename_i hls
          have hne := Wm.enc_nval_ne f t hl2 hls
          refine (numrd_long c f t most w hb hl2 3 (Lib.hid (.inl ⟨rfl, by simpa using hne⟩))).mono ?_
          rintro e w' h9
          exact numrd_fin c f t w hb 3 e w' h9
        · rename_i hls
          have heq := Wm.enc_nval f t hl2 (by simpa using hls)
          split
          · rename_i hmost
            refine (numrd_long c f t most w hb hl2 5 (Lib.hid (.inr (.inl ⟨rfl, by simpa using heq, hmost⟩)))).mono ?_
            rintro e w' h9
            exact numrd_fin c f t w hb 5 e w' h9
          · rename_i hmost
            refine (numrd_long c f t most w hb hl2 0 (Lib.hid (.inr (.inr ⟨rfl, by simpa using heq, by omega⟩)))).mono ?_
            rintro e w' h9
            exact numrd_fin c f t w hb 0 e w' h9
  · rename_i he
    obtain rfl := h.fail he
    refine (numrd_failed c e0 most w h.err (by simpa using he)).mono ?_
    rintro e w' ⟨rfl, rfl⟩
    exact ⟨rfl, h, Kept.refl _ _ _⟩

/-! ## Text -/

end Go.Proofs.YtdnnccnicaoniaaDoor
