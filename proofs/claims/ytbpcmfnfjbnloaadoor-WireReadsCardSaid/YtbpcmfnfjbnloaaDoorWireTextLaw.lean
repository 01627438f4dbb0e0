/-
  The walk of the statement WireText: whatever the text, it answers true and leaves all that was there as it was.
-/
import Derived.Test.YtbpcmfnfjbnloaaDoorWireNumber
namespace Go.Proofs.YtbpcmfnfjbnloaaDoor
open Go.RowKit

theorem textlaw_huge (s : ByteArray) (w : World) (ht : Tab w) (hs : 200000 < s.size) (hs2 : s.size ≤ 9223372036854775807) : Calls Tryd.prog 10 #[.string s] w fun e w' => e = .returned (.bool true) ∧ Kept w.heap.size w.heap.size w w' := by
  go_enter Tryd.func10, Tryd.ntmps10
  go_wp2_with fail
  refine (awake_calls _ ht).mono ?_
  rintro e w4 ⟨rfl, k4⟩
  go_wp2
  go_ret
  exact ⟨rfl, k4⟩

theorem textlaw_long (s : ByteArray) (w : World) (ht : Tab w) (hs : 65536 < s.size) (hs2 : s.size ≤ 200000) : Calls Tryd.prog 10 #[.string s] w fun e w' => e = .returned (.bool true) ∧ Kept w.heap.size w.heap.size w w' := by
  have hpos := ht.lt
  have hp : pText (some []) s.data.toList = none := pText_long _ _ (by simpa using hs)
  have Hp := Lib.hid hp
  clear hp
  go_enter Tryd.func10, Tryd.ntmps10
  go_wp2_with fail
  refine (new_calls w).mono ?_
  rintro e w1 ⟨rfl, h1, k1, s1⟩
  go_wp2_with fail
  refine (wtext_v (w.heap.size + 1) w.heap.size _ (some []) s _ (.inr ⟨rfl, h1⟩) (ht.kept k1 hpos hpos) (by omega) (empty_short _)).mono ?_
  rintro e w2 ⟨rfl, h2, k2⟩
  rw [Hp.out] at h2
  have k12 := k1.trans (k2.mono (by omega) (fun _ _ h => h))
  have h3 : Wr w2 (w.heap.size + 1) w.heap.size none := by
    rcases h2 with ⟨h, _⟩ | ⟨_, h⟩
    · cases h
    · exact h
  clear h1 h2
  go_wp2_with fail
  refine (wend_bad _ _ _ h3).mono ?_
  rintro e w3 ⟨rfl, rfl⟩
  go_wp2_with fail
  refine (awake_calls _ (ht.kept k12 hpos hpos)).mono ?_
  rintro e w4 ⟨rfl, k4⟩
  go_wp2
  go_ret
  exact ⟨rfl, k12.trans (k4.mono k12.size (fun k hk _ => by have := k12.size; omega))⟩

/-- Reading a text that was put. -/
theorem rText_enc (s : List UInt8) (hs : s.length ≤ 65536) (r : List UInt8) (most : Int) (hm : (s.length : Int) ≤ most) : Wm.rText (Wm.enc s.length ++ s ++ r) most = ⟨s, r, 0⟩ := by
  have h1 : Wm.rNum (Wm.enc s.length ++ (s ++ r)) (min most 65536) = ⟨s.length, s ++ r, 0⟩ := Wm.rNum_enc s.length (by omega) (s ++ r) _ (by omega)
  rw [List.append_assoc, Wm.rText, h1, if_pos rfl]
  show Wm.rRaw (s ++ r) ((s.length : Int)).toNat = _
  rw [Int.toNat_natCast, Wm.rRaw, if_neg (by simp), List.take_left' rfl, List.drop_left' rfl]

theorem textlaw_good (s : ByteArray) (w : World) (ht : Tab w) (hs : s.size ≤ 65536) : Calls Tryd.prog 10 #[.string s] w fun e w' => e = .returned (.bool true) ∧ Kept w.heap.size w.heap.size w w' := by
  have hpos := ht.lt
  have hsz : s.data.toList.length = s.size := by simp
  have hp : pText (some []) s.data.toList = some (Wm.enc s.size ++ s.data.toList) := by rw [pText, if_pos (by omega), hsz]; rfl
  have Hp := Lib.hid hp
  clear hp
  have hr : Wm.rText (Wm.enc s.size ++ s.data.toList) s.size = ⟨s.data.toList, [], 0⟩ := by
    have := rText_enc s.data.toList (by omega) [] s.size (by omega)
    rwa [List.append_nil, hsz] at this
  have Hr := Lib.hid hr
  clear hr hsz
  obtain ⟨L, hL⟩ : ∃ L, L = Wm.enc s.size ++ s.data.toList := ⟨_, rfl⟩
  rw [← hL] at Hp Hr
  have HL := Lib.hid hL
  clear hL
  go_enter Tryd.func10, Tryd.ntmps10
  go_wp2_with fail
  refine (new_calls w).mono ?_
  rintro e w1 ⟨rfl, h1, k1, s1⟩
  go_wp2_with fail
  refine (wtext_v (w.heap.size + 1) w.heap.size _ (some []) s _ (.inr ⟨rfl, h1⟩) (ht.kept k1 hpos hpos) (by omega) (empty_short _)).mono ?_
  rintro e w2 ⟨rfl, h2, k2⟩
  rw [Hp.out] at h2
  have k12 := k1.trans (k2.mono (by omega) (fun _ _ h => h))
  have h3 : Wr w2 (w.heap.size + 1) w.heap.size (some L) := by
    rcases h2 with ⟨h, _⟩ | ⟨_, h⟩
    · cases h
    · exact h
  clear h1 h2
  go_wp2_with fail
  refine (wend_ok _ _ _ _ h3).mono ?_
  rintro e w3 ⟨rfl, rfl⟩
  have hs2 := k12.size
  go_wp2_with fail
  refine (from_calls _ w2).mono ?_
  rintro e w5 ⟨rfl, h6, k5, s5⟩
  have k15 := k12.trans (k5.mono hs2 (fun k hk _ => by omega))
  have hs5 := k5.size
  go_wp2_with fail
  refine (awake_calls _ (ht.kept k15 hpos hpos)).mono ?_
  rintro e w6 ⟨rfl, k6⟩
  have k16 := k15.trans (k6.mono (by omega) (fun k hk _ => by omega))
  have hs6 := k6.size
  have h7 := h6.kept k6 (by omega) (by omega)
  clear h6
  go_wp2_with fail
  refine (reftext s _ hs).mono ?_
  rintro e w7 ⟨rfl, k7⟩
  rw [← HL.out]
  have k17 := k16.trans (k7.mono (by omega) (fun k hk _ => by omega))
  have hs7 := k7.size
  have h8 := h7.kept k7 (by omega) (by omega)
  clear h7
  go_wp2_with fail
  refine (rtext_run _ _ _ s.size _ h8 (ht.kept k17 hpos hpos) (by omega)).mono ?_
  rintro e w8 ⟨rfl, h9, k8⟩
  rw [Hr.out] at h9 ⊢
  rw [str_of]
  have hs8 := k8.size
  have k18 := k17.trans (k8.mono (by omega) (fun k hk _ => by omega))
  go_wp2_with fail
  refine (rend_run _ _ _ _ h9).mono ?_
  rintro e w9 ⟨rfl, rfl⟩
  go_wp2
  go_ret
  exact ⟨rfl, k18⟩

theorem text_walk (s : ByteArray) (w : World) (ht : Tab w) (hs : s.size ≤ 9223372036854775807) : Calls Tryd.prog 10 #[.string s] w fun e w' => e = .returned (.bool true) ∧ Kept w.heap.size w.heap.size w w' := by
  by_cases h1 : 200000 < s.size
  · exact textlaw_huge s w ht h1 hs
  · by_cases h2 : 65536 < s.size
    · exact textlaw_long s w ht h2 (by omega)
    · exact textlaw_good s w ht (by omega)

end Go.Proofs.YtbpcmfnfjbnloaaDoor
