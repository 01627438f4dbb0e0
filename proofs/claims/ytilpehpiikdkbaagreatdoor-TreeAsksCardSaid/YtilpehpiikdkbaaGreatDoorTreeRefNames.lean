/-
 The document's Names.
-/
import Derived.Test.YtilpehpiikdkbaaGreatDoorTreeSort

namespace Go.Proofs.YtilpehpiikdkbaaGreatDoor
open Go.RowKit Go.Lib

set_option maxRecDepth 100000 in
set_option maxHeartbeats 6400000 in
theorem refnames_calls (lv pv : Value) (L : List Lf) (w : World) (hL : Lvs w lv L) (hn : L.length ≤ 1000) (hpv : ∃ ad n c, pv = .slice ad n c) :
  Calls Tryz.prog 23 #[.agg #[lv, pv]] w fun e w' => ∃ v, e = .returned v ∧ Ints w' w.heap.size v (Tt.rnames L) ∧ Kept w.heap.size w.heap.size w w' := by
 have HPL := Lib.hid (fun (y : Int) (x : World) (k : Kept w.heap.size w.heap.size w x) => refplace_calls lv pv L y x (hL.kept k) hn hpv)
 obtain ⟨pad, pn, pc, rfl⟩ := hpv
 obtain ⟨lad, lc, rfl⟩ := hL.shape
 obtain ⟨ln, hln⟩ : ∃ ln, ln = L.length := ⟨_, rfl⟩
 rw [← hln] at HPL ⊢
 clear hL hn hln
 have k1 := (Kept.refl w.heap.size w.heap.size w).alloc (Nat.le_refl _) (.cells #[.slice lad ln lc, .slice pad pn pc] 27)
 have t1 := heap_new w (.cells #[.slice lad ln lc, .slice pad pn pc] 27)
 go_enter Tryz.func23, Tryz.ntmps23
 go_upto_region 2 with fail
 generalize w.alloc (.cells #[.slice lad ln lc, .slice pad pn pc] 27) = w1 at k1 t1 ⊢
 obtain ⟨tb, htb⟩ : ∃ tb, tb = w.heap.size := ⟨_, rfl⟩
 rw [← htb] at t1
 (try rw [← htb])
 have HTB := Lib.hid (show w.heap.size ≤ tb by omega)
 have K1 := Lib.hid k1
 have T1 := Lib.hid t1
 have I1 := Lib.hid (show Ints w1 w.heap.size (.slice none 0 0) (Tt.rnamesTo L 0) from World.ownsRow_nil _ _ _ _)
 have HTL := Lib.hid (show tb < w1.heap.size from lt_of_block T1.out)
 clear k1 t1 htb
 have M1 := Lib.hid (show ∀ g, (Value.slice none 0 0).ownBlock = some g → g ≠ tb from fun _ e => nomatch e)
 go_wp2
 go_loopw [3, 4] (fun s3 s4 wr => ∃ k : Nat, ∃ v, s3 = v ∧ s4 = .int .i64 ((k + 1 : Nat) : Int) ∧ Hid (k ≤ 64) ∧ Hid (Kept w.heap.size w.heap.size w wr) ∧ Hid (wr.heap[tb]? = some (.cells #[.slice lad ln lc, .slice pad pn pc] 27 (0, 0))) ∧ Hid (Ints wr (tb + 1) v (Tt.rnamesTo L k))) (fun _ s4 _ => 65 - (RowKit.intOf s4).toNat)
 case atStart => exact ⟨0, _, rfl, rfl, Lib.hid (Nat.zero_le _), K1, T1, Lib.hid (World.ownsRow_nil _ _ _ _)⟩
 case round =>
  obtain ⟨k, v, rfl, rfl, hi, HK, HT, HI⟩ := hrel
  obtain ⟨vad, vc, hv⟩ := (ints_nums HI.out).shape
  subst hv
  obtain ⟨vn, hvn⟩ : ∃ vn, vn = (Tt.rnamesTo L k).length := ⟨_, rfl⟩
  rw [← hvn] at HI ⊢
  have HVN := Lib.hid (show vn ≤ 64 by rw [hvn]; exact Nat.le_trans (Tt.rnamesTo_length L k) hi.out)
  clear hvn
  have hnx : Tt.rnamesTo L (k + 1) = if 0 ≤ Tt.rplace L ((k + 1 : Nat) : Int) then Tt.rnamesTo L k ++ [((k + 1 : Nat) : Int)] else Tt.rnamesTo L k := rfl
  have hwy : wrap64 (((k + 1 : Nat) : Int) + 1) = ((k + 1 + 1 : Nat) : Int) := by
   have := hi.out
   simp only [wrap64]
   omega
  have HPY := Lib.hid (HPL.out ((k + 1 : Nat) : Int))
  obtain ⟨y, hy⟩ : ∃ y, y = ((k + 1 : Nat) : Int) := ⟨_, rfl⟩
  rw [← hy] at hnx hwy HPY ⊢
  have HY := Lib.hid hy
  have HNX := Lib.hid hnx
  have HWY := Lib.hid hwy
  obtain ⟨pl, hpl⟩ : ∃ pl, pl = Tt.rplace L y := ⟨_, rfl⟩
  rw [← hpl] at HPY HNX
  by_cases hlt : k < 64
  ·have hle : y ≤ 64 := by omega
   have HLT := Lib.hid hlt
   clear hlt hi hy hnx hwy hpl
   by_cases hp0 : pl ≥ 0
   ·have HP0 := Lib.hid hp0
    have hp1 : 0 ≤ pl := hp0
    go_upto_region 5 with fail
    refine wp_region_lit ?_
    refine @wpList_load_known _ _ _ _ _ _ _ ?hw37031 27 (.tmp 1) rfl (tb) (0) rfl (.agg #[.slice lad ln lc, .slice pad pn pc]) (run_loadVar_row wr tb 27 27 _ (0, 0) _ HT.out Tryz.underlying27 rfl treeInfo) ?_
    case hw37031 => kernel_rfl
    simp only [Act.put, List.setIfInBounds_toArray, List.set_cons_zero, List.set_cons_succ]
    refine @BigFrame.wpList_want _ _ _ _ _ _ _ ?hw37032 ?_
    case hw37032 => kernel_rfl
    intro K hK
    go_simp
    refine hK _ _ ?_
    clear hK K
    refine @BigFrame.wpList_want _ _ _ _ _ _ _ ?hw37030 ?_
    case hw37030 => kernel_rfl
    intro K hK
    go_simp
    go_at_call 21
    refine (HPY.out _ HK.out).mono ?_
    rintro e w5 ⟨rfl, k5⟩
    have K5 := Lib.hid (HK.out.next1 k5)
    have I5 := Lib.hid (HI.out.kept k5)
    have T5 := Lib.hid ((k5.block tb (lt_of_block HT.out) (Nat.ne_of_lt (lt_of_block HT.out))).trans HT.out)
    clear k5
    refine hK _ _ ?_
    clear hK K
    refine @BigFrame.wpList_want _ _ _ _ _ _ _ ?hw37033 ?_
    case hw37033 => kernel_rfl
    intro K hK
    go_simp
    refine hK _ _ ?_
    clear hK K
    go_upto_region 6 with fail
    have K6 := Lib.hid (K5.out.alloc K5.out.size (.cells #[.int .i64 y] 3))
    have i6 := I5.out.alloc (.cells #[.int .i64 y] 3)
    have t6 := (heap_alloc_old w5 (.cells #[.int .i64 y] 3) (lt_of_block T5.out)).trans T5.out
    obtain ⟨v7, w7, e7, i7, g7⟩ := append_int1 _ _ _ _ y i6 w5.heap.size 1 (one_cellT (heap_new w5 (.cells #[.int .i64 y] 3))) (by have := Tt.rnamesTo_length L k; have := HLT.out; omega) (by have := lt_of_block t6; omega)
    have k7 := K6.out.grown g7 K6.out.size (fun k e => Nat.le_trans (Nat.le_succ_of_le HTB.out) (World.ownsRow.lt i6 k e).1)
    have T7 := Lib.hid ((g7.block tb (lt_of_block t6) (fun e => by have := (World.ownsRow.lt i6 tb e.symm).1; omega)).trans t6)
    have hnx7 : Tt.rnamesTo L (k + 1) = Tt.rnamesTo L k ++ [y] := by rw [HNX.out, if_pos HP0.out]
    rw [← hnx7] at i7
    obtain ⟨vad7, vc7, hv7⟩ := (ints_nums i7).shape
    subst hv7
    obtain ⟨vn7, hvn7⟩ : ∃ vn7, vn7 = (Tt.rnamesTo L (k + 1)).length := ⟨_, rfl⟩
    rw [← hvn7] at e7 i7
    have E7 := Lib.hid e7
    have I7 := Lib.hid i7
    have K7 := Lib.hid k7
    clear i6 t6 e7 i7 g7 k7 hvn7 hnx7
    refine wp_region_lit ?_
    refine @BigFrame.wpList_want _ _ _ _ _ _ _ ?hw37034 ?_
    case hw37034 => kernel_rfl
    intro K hK
    go_simp
    refine hK _ _ ?_
    clear hK K
    refine @BigFrame.wpList_want _ _ _ _ _ _ _ ?hw37035 ?_
    case hw37035 => kernel_rfl
    intro K hK
    go_simp
    refine hK _ _ ?_
    clear hK K
    refine @BigFrame.wpList_want _ _ _ _ _ _ _ ?hw37036 ?_
    case hw37036 => kernel_rfl
    intro K hK
    go_simp
    refine hK _ _ ?_
    clear hK K
    refine wpList_append_known rfl (.tmp 13) (.tmp 15) 35 35 35 rfl rfl (.slice vad vn vc) (.slice (some ⟨w5.heap.size, 0, none⟩) 1 1) rfl rfl E7.out ?_
    simp only [Act.put, List.setIfInBounds_toArray, List.set_cons_zero, List.set_cons_succ]
    refine @BigFrame.wpList_want _ _ _ _ _ _ _ ?hw37037 ?_
    case hw37037 => kernel_rfl
    intro K hK
    go_simp
    refine hK _ _ ?_
    clear hK K
    go_wp2
    go_roundw
    case rel => exact ⟨k + 1, _, rfl, by rw [HWY.out], Lib.hid HLT.out, K7, T7, I7⟩
    case measure => rw [HWY.out]; have := HLT.out; have := HY.out; simp [RowKit.intOf]; omega
   ·have HP0 := Lib.hid (show ¬ 0 ≤ pl from hp0)
    have hp1 : ¬ 0 ≤ pl := hp0
    go_upto_region 5 with fail
    refine wp_region_lit ?_
    refine @wpList_load_known _ _ _ _ _ _ _ ?hw37027 27 (.tmp 1) rfl (tb) (0) rfl (.agg #[.slice lad ln lc, .slice pad pn pc]) (run_loadVar_row wr tb 27 27 _ (0, 0) _ HT.out Tryz.underlying27 rfl treeInfo) ?_
    case hw37027 => kernel_rfl
    simp only [Act.put, List.setIfInBounds_toArray, List.set_cons_zero, List.set_cons_succ]
    refine @BigFrame.wpList_want _ _ _ _ _ _ _ ?hw37028 ?_
    case hw37028 => kernel_rfl
    intro K hK
    go_simp
    refine hK _ _ ?_
    clear hK K
    refine @BigFrame.wpList_want _ _ _ _ _ _ _ ?hw37026 ?_
    case hw37026 => kernel_rfl
    intro K hK
    go_simp
    go_at_call 21
    refine (HPY.out _ HK.out).mono ?_
    rintro e w5 ⟨rfl, k5⟩
    have K5 := Lib.hid (HK.out.next1 k5)
    have I5 := Lib.hid (HI.out.kept k5)
    have T5 := Lib.hid ((k5.block tb (lt_of_block HT.out) (Nat.ne_of_lt (lt_of_block HT.out))).trans HT.out)
    clear k5
    refine hK _ _ ?_
    clear hK K
    refine @BigFrame.wpList_want _ _ _ _ _ _ _ ?hw37029 ?_
    case hw37029 => kernel_rfl
    intro K hK
    go_simp
    refine hK _ _ ?_
    clear hK K
    go_wp2
    go_roundw
    case rel => exact ⟨k + 1, _, rfl, by rw [HWY.out], Lib.hid HLT.out, K5, T5, by rw [HNX.out, if_neg HP0.out]; exact I5⟩
    case measure => rw [HWY.out]; have := HLT.out; have := HY.out; simp [RowKit.intOf]; omega
  ·have hle : ¬ y ≤ 64 := by omega
   have HE := Lib.hid (show k = 64 by have := hi.out; omega)
   clear hlt hi hy hnx hwy hpl
   go_wp2
   go_ret
   refine ⟨_, rfl, ?_, HK.out⟩
   have := HI.out
   rw [HE.out] at this
   exact owns_lower this (Nat.le_succ_of_le HTB.out)

end Go.Proofs.YtilpehpiikdkbaaGreatDoor
