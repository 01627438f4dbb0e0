/-
  The document's Direct.
-/
import Derived.Test.YtmmgekchfgmcdaaGreatDoorBoughLow
import Derived.Test.YtmmgekchfgmcdaaGreatDoorBoughRefs
import Derived.Deep.RegionWith
import Derived.Deep.Cut

namespace Go.Proofs.YtmmgekchfgmcdaaGreatDoor
open Go.RowKit Go.Lib

set_option maxRecDepth 100000 in
set_option maxHeartbeats 1600000 in
/-- The document's Direct: the chain, collected. -/
theorem rdirect_calls (n leaf : Int) (w : World) : Calls Tryz.prog 82 #[.int .i64 n, .int .i64 leaf] w fun e W' => ∃ v, e = .returned v ∧ Ints W' w.heap.size v (Bo.Direct n leaf) ∧ Kept w.heap.size w.heap.size w W' := by
  obtain ⟨i0, hi, hz0, hz1, hz2⟩ := info_parts intInfo
  by_cases h : Bo.leaf n leaf = true
  · rw [Bo.Direct, if_pos h]
    have hT := fun w => rthere_calls n 0 w
    have hT2 : Bo.there n 0 = true ∧ 0 ≤ leaf ∧ leaf ≤ 64 ∧ leaf < n := by simp [Bo.leaf] at h; simp [Bo.there]; omega
    rw [hT2.1] at hT
    obtain ⟨_, g1, g2, g3⟩ := hT2
    have g4 : ¬ leaf < 0 := by omega
    have g5 : ¬ leaf ≥ n := by omega
    have hA := fun y w => rabove_calls n y w
    obtain ⟨L, hL⟩ : ∃ L, L = Bo.ups n (2 * leaf) := ⟨_, rfl⟩
    have hlen : L.length ≤ 66 := by rw [hL]; exact Bo.chain_length _ _
    have HLL := Lib.hid hL
    have HLEN := Lib.hid hlen
    rw [← hL]
    have HT := Lib.hid hT
    have HA := Lib.hid hA
    clear hT hA hL hlen h
    go_enter Tryz.func82, Tryz.ntmps82
    go_wp2_with (first
      | (go_at_call 102; refine (HT.out _).mono ?_; rintro e w1 ⟨rfl, hw1⟩; subst w1)
      | (go_at_call 116; refine (HA.out _ _).mono ?_; rintro e w1 ⟨rfl, hw1⟩; subst w1))
    go_loopw [5, 6] (fun s5 s6 wr => ∃ (pre : List Int) (p : Int), s6 = .int .i64 p ∧ Hid (L = pre ++ Bo.chain n p) ∧ Hid (wr.ownsRow w.heap.size 3 1 s5 pre.length (pre.map (Value.int .i64))) ∧ Hid (Kept w.heap.size w.heap.size w wr)) (fun _ s6 _ => Bo.far n (RowKit.intOf s6))
    case atStart => exact ⟨[], Bo.Above n (2 * leaf), rfl, Lib.hid HLL.out, Lib.hid (World.ownsRow_nil _ _ _ _), Lib.hid (Kept.refl _ _ _)⟩
    case round =>
      obtain ⟨pre, p, rfl, hpre, hrow, hk⟩ := hrel
      by_cases hp : p < 0
      · have hp' : ¬ p ≥ 0 := by omega
        have hend := Lib.hid (Bo.chain_end (n := n) hp)
        go_wp2
        go_ret
        have e : L = pre := by rw [hpre.out, hend.out]; simp
        exact ⟨_, rfl, by rw [e]; exact hrow.out, hk.out⟩
      · have hp' : p ≥ 0 := by omega
        have hstep := Lib.hid (Bo.chain_step (n := n) hp)
        have hfar := Lib.hid (Bo.far_less n p (by omega))
        have hplen : pre.length + 1 ≤ 66 := by
          have h1 := HLEN.out
          rw [hpre.out, hstep.out] at h1
          simp at h1
          omega
        have hsz := hk.out.size
        have hown := hrow.out
        go_upto_region 7 with fail
        refine wp_region_lit ?_
        refine @BigFrame.wpList_want _ _ _ _ _ _ _ ?hw1 ?_
        case hw1 => kernel_rfl
        intro K1 hK1
        go_simp
        refine hK1 _ _ ?_
        refine @BigFrame.wpList_want _ _ _ _ _ _ _ ?hw2 ?_
        case hw2 => kernel_rfl
        intro K2 hK2
        go_simp
        refine hK2 _ _ ?_
        refine @BigFrame.wpList_want _ _ _ _ _ _ _ ?hw3 ?_
        case hw3 => kernel_rfl
        intro K3 hK3
        go_simp
        refine hK3 _ _ ?_
        trace_state
        refine wpList_append_own _ rfl (.tmp 29) (.tmp 31) 35 rfl w.heap.size 3 i0 (.int .i64 0) 1 8 Tryz.underlying35 hi hz0 hz1 hz2 rfl (by decide) u5 _ _ rfl (hown.alloc _) ⟨wr.heap.size, 0, none⟩ 1 1 [.int .i64 p] rfl rfl (cell_one_new _ _ _) (by simp [Value.oneCell']) (Nat.le_trans hplen (by decide)) (by omega) (by simp; omega) ?_
        intro v' w1 hown' hgrow _
        have HO := Lib.hid hown'
        have HG := Lib.hid hgrow
        clear hown' hgrow
        go_wp2_with (go_at_call 116; refine (HA.out _ _).mono ?_; rintro e w2 ⟨rfl, hw2⟩; subst w2)
        go_roundw
        case rel =>
          refine ⟨pre ++ [p], Bo.Above n p, rfl, Lib.hid (by rw [hpre.out, hstep.out]; simp), Lib.hid ?_, Lib.hid ?_⟩
          · simpa using HO.out
          · exact (hk.out.alloc hsz _).grown HG.out (by simp; omega) (fun k e => (hown.lt k e).1)
        case measure => exact hfar.out
  · rw [Bo.Direct, if_neg h]
    have hT := fun w => rthere_calls n 0 w
    have HT := Lib.hid hT
    clear hT
    by_cases g1 : leaf < 0
    · clear h
      go_enter Tryz.func82, Tryz.ntmps82
      go_wp2
      go_ret
      exact ⟨_, rfl, World.ownsRow_nil _ _ _ _, Kept.refl _ _ _⟩
    · by_cases g2 : leaf ≥ n
      · clear h
        go_enter Tryz.func82, Tryz.ntmps82
        go_wp2
        go_ret
        exact ⟨_, rfl, World.ownsRow_nil _ _ _ _, Kept.refl _ _ _⟩
      · have hT0 : Bo.there n 0 = false := by simp [Bo.leaf] at h; simp [Bo.there]; omega
        rw [hT0] at HT
        clear h hT0
        go_enter Tryz.func82, Tryz.ntmps82
        go_wp2_with (go_at_call 102; refine (HT.out _).mono ?_; rintro e w1 ⟨rfl, hw1⟩; subst w1)
        go_ret
        exact ⟨_, rfl, World.ownsRow_nil _ _ _ _, Kept.refl _ _ _⟩

end Go.Proofs.YtmmgekchfgmcdaaGreatDoor
