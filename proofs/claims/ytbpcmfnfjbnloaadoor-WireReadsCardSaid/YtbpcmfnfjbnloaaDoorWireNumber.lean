/-
  The walk of the statement WireNumber: whatever the number, it answers true and leaves all that was there as it was.
-/
import Derived.Test.YtbpcmfnfjbnloaaDoorWireAwake
namespace Go.Proofs.YtbpcmfnfjbnloaaDoor
open Go.RowKit

theorem empty_short (k : Nat) : Short (some []) k := fun l hl => by cases hl; simp

theorem number_bad (n : Int) (w : World) (ht : Tab w) (hn : n < 0 ∨ 4611686018427387903 < n) : Calls Tryd.prog 9 #[.int .i64 n] w fun e w' => e = .returned (.bool true) ∧ Kept w.heap.size w.heap.size w w' := by
  have hpos := ht.lt
  have hp : pNum (some []) n = none := by rw [pNum, if_neg (by omega)]
  have Hp := Lib.hid hp
  clear hp
  rcases hn with hn | hn
  all_goals
    go_enter Tryd.func9, Tryd.ntmps9
    go_wp2_with fail
    refine (new_calls w).mono ?_
    rintro e w1 ⟨rfl, h1, k1, s1⟩
    go_wp2_with fail
    refine (wnum_v (w.heap.size + 1) w.heap.size _ (some []) n _ (.inr ⟨rfl, h1⟩) (ht.kept k1 hpos hpos) (empty_short _)).mono ?_
    rintro e w2 ⟨rfl, h2, k2⟩
    rw [Hp.out] at h2
    have k12 := k1.trans (k2.mono (by omega) (fun _ _ h => h))
    have h3 : Wr w2 (w.heap.size + 1) w.heap.size none := by
      rcases h2 with ⟨h, _⟩ | ⟨_, h⟩
      · cases h
      · exact h
    clear h1 h2
    go_wp2_with fail
    refine (wend_bad _ _ _ h3).mono ?_
    rintro e w3 ⟨rfl, rfl⟩
    go_wp2_with fail
    refine (awake_calls _ (ht.kept k12 hpos hpos)).mono ?_
    rintro e w4 ⟨rfl, k4⟩
    go_wp2
    go_ret
    exact ⟨rfl, k12.trans (k4.mono k12.size (fun k hk _ => by have := k12.size; omega))⟩

theorem number_good (n : Nat) (w : World) (ht : Tab w) (hn : n ≤ 4611686018427387903) : Calls Tryd.prog 9 #[.int .i64 n] w fun e w' => e = .returned (.bool true) ∧ Kept w.heap.size w.heap.size w w' := by
  have hpos := ht.lt
  have hp : pNum (some []) n = some (Wm.enc n) := by rw [pNum, if_pos (by omega), Int.toNat_natCast]; rfl
  have Hp := Lib.hid hp
  clear hp
  have hr : Wm.rNum (Wm.enc n) n = ⟨n, [], 0⟩ := by
    have := Wm.rNum_enc n hn [] n (by omega)
    rwa [List.append_nil] at this
  have Hr := Lib.hid hr
  clear hr
  go_enter Tryd.func9, Tryd.ntmps9
  go_wp2_with fail
  refine (new_calls w).mono ?_
  rintro e w1 ⟨rfl, h1, k1, s1⟩
  go_wp2_with fail
  refine (wnum_v (w.heap.size + 1) w.heap.size _ (some []) n _ (.inr ⟨rfl, h1⟩) (ht.kept k1 hpos hpos) (empty_short _)).mono ?_
  rintro e w2 ⟨rfl, h2, k2⟩
  rw [Hp.out] at h2
  have k12 := k1.trans (k2.mono (by omega) (fun _ _ h => h))
  have h3 : Wr w2 (w.heap.size + 1) w.heap.size (some (Wm.enc n)) := by
    rcases h2 with ⟨h, _⟩ | ⟨_, h⟩
    · cases h
    · exact h
  clear h1 h2
  go_wp2_with fail
  refine (wend_ok _ _ _ _ h3).mono ?_
  rintro e w3 ⟨rfl, rfl⟩
  have hs2 := k12.size
  go_wp2_with fail
  refine (from_calls _ w2).mono ?_
  rintro e w5 ⟨rfl, h6, k5, s5⟩
  have k15 := k12.trans (k5.mono hs2 (fun k hk _ => by omega))
  have hs5 := k5.size
  go_wp2_with fail
  refine (awake_calls _ (ht.kept k15 hpos hpos)).mono ?_
  rintro e w6 ⟨rfl, k6⟩
  have k16 := k15.trans (k6.mono (by omega) (fun k hk _ => by omega))
  have hs6 := k6.size
  have h7 := h6.kept k6 (by omega) (by omega)
  clear h6
  go_wp2_with fail
  refine (refnum n _ hn).mono ?_
  rintro e w7 ⟨rfl, k7⟩
  have k17 := k16.trans (k7.mono (by omega) (fun k hk _ => by omega))
  have hs7 := k7.size
  have h8 := h7.kept k7 (by omega) (by omega)
  clear h7
  go_wp2_with fail
  refine (num_run _ _ _ n _ h8 (ht.kept k17 hpos hpos) (by omega)).mono ?_
  rintro e w8 ⟨rfl, h9, k8⟩
  rw [Hr.out] at h9 ⊢
  have hs8 := k8.size
  have k18 := k17.trans (k8.mono (by omega) (fun k hk _ => by omega))
  go_wp2_with fail
  refine (rend_run _ _ _ _ h9).mono ?_
  rintro e w9 ⟨rfl, rfl⟩
  go_wp2
  go_ret
  exact ⟨rfl, k18⟩

theorem number_walk (n : Int) (w : World) (ht : Tab w) : Calls Tryd.prog 9 #[.int .i64 n] w fun e w' => e = .returned (.bool true) ∧ Kept w.heap.size w.heap.size w w' := by
  by_cases hn : 0 ≤ n ∧ n ≤ 4611686018427387903
  · obtain ⟨m, rfl⟩ := Int.eq_ofNat_of_zero_le hn.1
    exact number_good m w ht (by omega)
  · exact number_bad n w ht (by omega)

end Go.Proofs.YtbpcmfnfjbnloaaDoor
