/-
  The writer's calls Text, Hash, Flag and End.
-/
import Derived.Test.YtbpcmfnfjbnloaaDoorWireNum
import Derived.Laws.BytesArg
namespace Go.Proofs.YtbpcmfnfjbnloaaDoor
open Go.RowKit

theorem wtext_long (base b : Nat) (p : Value) (st : Option (List UInt8)) (s : ByteArray) (w : World) (h : WrV w base b p st) (hs : 65536 < s.size) (hs2 : s.size ≤ 9223372036854775807) :
    Calls Tryd.prog 31 #[p, .string s] w fun e w' => e = .returned (.tuple #[]) ∧ WrV w' base b p none ∧ Kept base b w w' ∧ Fr b w w' := by
  go_enter Tryd.func31, Tryd.ntmps31
  go_wp2_with (go_at_call 40; refine (spoil_v base b p st _ h).mono ?_; rintro e w' ⟨rfl, h1, h2⟩)
  refine bodyPost_ret (results_none rfl _ _ _) rfl ?_
  exact ⟨rfl, h1, h2⟩

theorem text_cells (w : World) (s : ByteArray) (c : Nat) (f : Nat × Nat) : ∀ j (hj : j < s.data.toList.length), (w.alloc (.cells (bytesRow s c) 5 f)).drew.cell? (Addr.add ⟨w.heap.size, 0, none⟩ j) = some (.int .u8 (s.data.toList[j]).toNat) := by
  intro j hj
  have hj' : j < s.data.size := by simpa using hj
  rw [Addr.add_lit]
  refine (World.cell?_alloc_mark w (bytesRow s c) 5 f (0 + j)).trans ?_
  rw [Nat.zero_add, bytesRow_at s c j hj']
  simp
theorem cells_new (w : World) (l : List UInt8) (t : TypeId) : ∀ j (hj : j < l.length), (w.alloc (.cells (bcells l).toArray t)).cell? (Addr.add ⟨w.heap.size, 0, none⟩ j) = some (.int .u8 (l[j]).toNat) := by
  intro j hj
  rw [Addr.add_lit]
  refine (World.cell?_alloc_mark w (bcells l).toArray t (0, 0) (0 + j)).trans ?_
  rw [Nat.zero_add, List.getElem?_toArray, bcells_get l j hj]

theorem short_num (st : Option (List UInt8)) (n : Int) (k : Nat) (h : Short st k) : Short (pNum st n) (k + 8) := by
  intro l hl
  unfold pNum at hl
  split at hl
  · cases st with
    | none => cases hl
    | some l0 =>
      simp only [Option.map_some, Option.some.injEq] at hl
      subst hl
      have := h l0 rfl
      have := Wm.enc_length_le n.toNat
      simp
      omega
  · cases hl
theorem short_raw (st : Option (List UInt8)) (s : List UInt8) (k : Nat) (h : Short st k) : Short (pRaw st s) (k + s.length) := by
  intro l hl
  cases st with
  | none => cases hl
  | some l0 =>
    simp only [pRaw, Option.map_some, Option.some.injEq] at hl
    subst hl
    have := h l0 rfl
    simp
    omega
theorem pText_eq (st : Option (List UInt8)) (s : List UInt8) (h : s.length ≤ 65536) : pRaw (pNum st s.length) s = pText st s := by
  unfold pText pNum
  rw [if_pos h, if_pos (by omega), Int.toNat_natCast]
  cases st <;> simp [pRaw]
theorem pText_long (st : Option (List UInt8)) (s : List UInt8) (h : 65536 < s.length) : pText st s = none := by
  unfold pText
  rw [if_neg (by omega)]

theorem wtext_short (base b : Nat) (p : Value) (st : Option (List UInt8)) (s : ByteArray) (w : World) (h : WrV w base b p st) (ht : Tab w) (hs : s.size ≤ 65536) (hlen : Short st 800000000) :
    Calls Tryd.prog 31 #[p, .string s] w fun e w' => e = .returned (.tuple #[]) ∧ WrV w' base b p (pRaw (pNum st s.size) s.data.toList) ∧ Kept base b w w' ∧ Fr b w w' := by
  have kc := fun (w : World) => run_bytes_of_string (P := Tryd.prog) w 9 56 5 s Tryd.underlying9 Tryd.underlying56 Tryd.underlying5
  go_enter Tryd.func31, Tryd.ntmps31
  go_wp2_with (go_at_call 30; refine (wnum_f base b p st _ _ h ht hlen).mono ?_; rintro e w' ⟨rfl, h1, h2, f2⟩)
  have hle := h1.le
  refine (put_v base b p (pNum st s.size) ⟨w'.heap.size, 0, none⟩ s.size _ s.data.toList _ ((h1.alloc _).drew) (by simp) (text_cells w' s _ _) (fun l hl => by have := short_num st _ _ hlen l hl; omega) (by omega)).mono ?_
  rintro e w2 ⟨rfl, h3, h4, f4⟩
  go_wp2
  go_end0
  exact ⟨rfl, h3, h2.trans ((((Kept.refl _ _ _).alloc hle _).drew).trans h4), f2.trans ((((Fr.refl _ _).alloc _).drew).trans f4)⟩

theorem wtext_f (base b : Nat) (p : Value) (st : Option (List UInt8)) (s : ByteArray) (w : World) (h : WrV w base b p st) (ht : Tab w) (hs : s.size ≤ 9223372036854775807) (hlen : Short st 800000000) :
    Calls Tryd.prog 31 #[p, .string s] w fun e w' => e = .returned (.tuple #[]) ∧ WrV w' base b p (pText st s.data.toList) ∧ Kept base b w w' ∧ Fr b w w' := by
  have hsz : s.data.toList.length = s.size := by simp
  by_cases hl : s.size ≤ 65536
  · have := wtext_short base b p st s w h ht hl hlen
    rw [← hsz, pText_eq st s.data.toList (by omega)] at this
    exact this
  · rw [pText_long st s.data.toList (by omega)]
    exact wtext_long base b p st s w h (by omega) hs

theorem wflag_f (base b : Nat) (p : Value) (st : Option (List UInt8)) (x : Bool) (w : World) (h : WrV w base b p st) (hlen : Short st 800000000) :
    Calls Tryd.prog 33 #[p, .bool x] w fun e w' => e = .returned (.tuple #[]) ∧ WrV w' base b p (pRaw st [if x then 1 else 0]) ∧ Kept base b w w' ∧ Fr b w w' := by
  have hle := h.le
  cases x
  · go_enter Tryd.func33, Tryd.ntmps33
    go_wp2_with (go_at_call 41; refine (put_v base b p st ⟨w.heap.size, 0, none⟩ 1 1 [0] _ (h.alloc _) rfl (one_cell w _ 0 rfl) (fun l hl => by have := hlen l hl; omega) (by omega)).mono ?_; rintro e w' ⟨rfl, hw', hk', hf'⟩)
    go_end0
    exact ⟨rfl, hw', ((Kept.refl _ _ _).alloc hle _).trans hk', ((Fr.refl _ _).alloc _).trans hf'⟩
  · go_enter Tryd.func33, Tryd.ntmps33
    go_wp2_with (go_at_call 41; refine (put_v base b p st ⟨w.heap.size, 0, none⟩ 1 1 [1] _ (h.alloc _) rfl (one_cell w _ 1 rfl) (fun l hl => by have := hlen l hl; omega) (by omega)).mono ?_; rintro e w' ⟨rfl, hw', hk', hf'⟩)
    go_end0
    exact ⟨rfl, hw', ((Kept.refl _ _ _).alloc hle _).trans hk', ((Fr.refl _ _).alloc _).trans hf'⟩

theorem whash_f (base b : Nat) (p : Value) (st : Option (List UInt8)) (x : List UInt8) (hx : x.length = 32) (w : World) (h : WrV w base b p st) (hlen : Short st 800000000) :
    Calls Tryd.prog 32 #[p, .agg (bcells x).toArray] w fun e w' => e = .returned (.tuple #[]) ∧ WrV w' base b p (pRaw st x) ∧ Kept base b w w' ∧ Fr b w w' := by
  have hle := h.le
  go_enter Tryd.func32, Tryd.ntmps32
  go_wp2_with (go_at_call 41; refine (put_v base b p st ⟨w.heap.size, 0, none⟩ 32 32 x _ (h.alloc _) hx (cells_new w x _) (fun l hl => by have := hlen l hl; omega) (by omega)).mono ?_; rintro e w' ⟨rfl, hw', hk', hf'⟩)
  go_end0
  exact ⟨rfl, hw', ((Kept.refl _ _ _).alloc hle _).trans hk', ((Fr.refl _ _).alloc _).trans hf'⟩

theorem wtext_v (base b : Nat) (p : Value) (st : Option (List UInt8)) (s : ByteArray) (w : World) (h : WrV w base b p st) (ht : Tab w) (hs : s.size ≤ 9223372036854775807) (hlen : Short st 800000000) :
    Calls Tryd.prog 31 #[p, .string s] w fun e w' => e = .returned (.tuple #[]) ∧ WrV w' base b p (pText st s.data.toList) ∧ Kept base b w w' :=
  (wtext_f base b p st s w h ht hs hlen).mono fun _ _ ⟨h1, h2, h3, _⟩ => ⟨h1, h2, h3⟩

theorem wflag_v (base b : Nat) (p : Value) (st : Option (List UInt8)) (x : Bool) (w : World) (h : WrV w base b p st) (hlen : Short st 800000000) :
    Calls Tryd.prog 33 #[p, .bool x] w fun e w' => e = .returned (.tuple #[]) ∧ WrV w' base b p (pRaw st [if x then 1 else 0]) ∧ Kept base b w w' :=
  (wflag_f base b p st x w h hlen).mono fun _ _ ⟨h1, h2, h3, _⟩ => ⟨h1, h2, h3⟩

theorem whash_v (base b : Nat) (p : Value) (st : Option (List UInt8)) (x : List UInt8) (hx : x.length = 32) (w : World) (h : WrV w base b p st) (hlen : Short st 800000000) :
    Calls Tryd.prog 32 #[p, .agg (bcells x).toArray] w fun e w' => e = .returned (.tuple #[]) ∧ WrV w' base b p (pRaw st x) ∧ Kept base b w w' :=
  (whash_f base b p st x hx w h hlen).mono fun _ _ ⟨h1, h2, h3, _⟩ => ⟨h1, h2, h3⟩

theorem wend_bad (base b : Nat) (w : World) (h : Wr w base b none) :
    Calls Tryd.prog 15 #[.pointer (some ⟨b, 0, none⟩)] w fun e w' => e = .returned (.tuple #[.string (str []), .int .i64 1]) ∧ w = w' := by
  obtain ⟨a, n, c, hb⟩ := WrBad.ex h
  have c0 := two_cell0 hb
  have c1 := two_cell1 hb
  clear hb h
  go_enter Tryd.func15, Tryd.ntmps15
  go_wp2
  go_ret2
  exact ⟨rfl, rfl⟩
theorem wend_nil (w : World) :
    Calls Tryd.prog 15 #[.pointer none] w fun e w' => e = .returned (.tuple #[.string (str []), .int .i64 1]) ∧ w = w' := by
  go_enter Tryd.func15, Tryd.ntmps15
  go_wp2
  go_ret2
  exact ⟨rfl, rfl⟩
theorem wend_ok (base b : Nat) (l : List UInt8) (w : World) (h : Wr w base b (some l)) :
    Calls Tryd.prog 15 #[.pointer (some ⟨b, 0, none⟩)] w fun e w' => e = .returned (.tuple #[.string (str l), .int .i64 0]) ∧ w = w' := by
  obtain ⟨a, n, c, hb, hown⟩ := WrOk.ex h
  have c0 := two_cell0 hb
  have c1 := two_cell1 hb
  have kc : (convert 56 9 (.slice a n c)).run Tryd.prog w = .ok (.string (str l)) w := by
    rcases hown.2 with ⟨hv, hn⟩ | ⟨g, cap, cur, hv, hg, hh, _⟩
    · cases hv
      have : l = [] := List.eq_nil_of_length_eq_zero hn
      subst this
      exact run_convert_bytes_nil _ _ _ Tryd.underlying56 Tryd.underlying5 0 0 _ Tryd.underlying9
    · cases hv
      refine run_convert_bytes_back w _ _ _ ⟨g, 0, none⟩ _ l Tryd.underlying56 Tryd.underlying5 Tryd.underlying9 (fun j hj => ?_)
      have := hown.cellAt j (by omega)
      rw [bcells_get l j hj] at this
      rw [Addr.add_lit, Nat.zero_add]
      exact this
  clear hb h hown
  go_enter Tryd.func15, Tryd.ntmps15
  go_wp2
  go_ret2
  exact ⟨rfl, rfl⟩
end Go.Proofs.YtbpcmfnfjbnloaaDoor
