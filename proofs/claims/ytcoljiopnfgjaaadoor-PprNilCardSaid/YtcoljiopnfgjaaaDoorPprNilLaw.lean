/-
  The statement PprNil: its walk.
-/
import Derived.Test.YtcoljiopnfgjaaaDoorGS

namespace Go.Proofs.YtcoljiopnfgjaaaDoor
open Go.RowKit Go.Lib

set_option maxRecDepth 100000 in
theorem pack_nil (w : World) : Calls Tryd.prog 18 #[.pointer none] w fun e w' => e = .returned (.string ⟨#[]⟩) ∧ w' = w := by
  go_enter Tryd.func18, Tryd.ntmps18
  go_wp2
  go_ret
  exact ⟨rfl, rfl⟩
theorem Kept.behind {w w1 w2 : World} (h : Kept w.heap.size w.heap.size w w1) (k : Kept w1.heap.size w1.heap.size w1 w2) : Kept w.heap.size w.heap.size w w2 :=
  h.trans (k.mono h.size (fun _ hi _ => Nat.ne_of_lt (Nat.lt_of_lt_of_le hi h.size)))

set_option maxRecDepth 100000 in
set_option maxHeartbeats 3200000 in
theorem pprnil_walk (p : Int) (w : World) : Calls Tryd.prog 5 #[.int .i64 p] w fun e w' => e = .returned (.bool true) ∧ Kept w.heap.size w.heap.size w w' := by
  have HZI := Lib.hid (show (Tryd.prog.info? 23).map (·.size) = some zeros32.size by rw [zeros32_size]; kernel_rfl)
  have HL := Lib.hid (fun w => look_no none (.pointer none) p 0 1 (by decide) w (fun w2 _ => find_nil p w2))
  have HT := Lib.hid (fun w => take_no none (.pointer none) p 0 1 (by decide) w (fun w2 _ => find_nil p w2))
  have HG := Lib.hid (fun w => gone_yes none p 0 1 (by decide) w (find_nil p w))
  go_enter Tryd.func5, Tryd.ntmps5
  go_upto_region 2 with fail
  refine wp_region_lit ?_
  refine @BigFrame.wpList_want _ _ _ _ _ _ _ ?hy1 ?_
  case hy1 => kernel_rfl
  intro K hK
  go_simp
  refine hK _ _ ?_
  clear hK K
  refine @BigFrame.wpList_want _ _ _ _ _ _ _ ?hy2 ?_
  case hy2 => kernel_rfl
  intro K hK
  go_simp
  refine hK _ _ ?_
  clear hK K
  refine @BigFrame.wpList_want _ _ _ _ _ _ _ ?hy3 ?_
  case hy3 => kernel_rfl
  intro K hK
  go_simp
  go_at_call 12
  refine (HL.out _).mono ?_
  rintro e w1 ⟨rfl, k1⟩
  refine hK _ _ ?_
  clear hK K
  have K1 := Lib.hid k1
  clear k1
  refine @BigFrame.wpList_want _ _ _ _ _ _ _ ?hy4 ?_
  case hy4 => kernel_rfl
  intro K hK
  go_simp
  refine hK _ _ ?_
  clear hK K
  refine @BigFrame.wpList_want _ _ _ _ _ _ _ ?hy5 ?_
  case hy5 => kernel_rfl
  intro K hK
  go_simp
  refine hK _ _ ?_
  clear hK K
  refine @BigFrame.wpList_want _ _ _ _ _ _ _ ?hy6 ?_
  case hy6 => kernel_rfl
  intro K hK
  go_simp
  refine hK _ _ ?_
  clear hK K
  refine wpList_alloc_k rfl 23 rfl (alloc_hash _) ?_
  simp only [Act.put, List.setIfInBounds_toArray, List.set_cons_zero, List.set_cons_succ]
  refine wpList_store_row rfl 23 _ _ rfl (w1.heap.size) zeros32 rfl rfl 23 zeros32 (heap_new _ _) (HZI.out) (rfl) (zeros32_all) ?_
  simp only [Act.put]
  rw [World.setRow_alloc_new]
  have K2 := Lib.hid (K1.out.alloc K1.out.size (.cells zeros32 23))
  generalize w1.alloc (.cells zeros32 23) = w2 at K2 ⊢
  refine @BigFrame.wpList_want _ _ _ _ _ _ _ ?hy7 ?_
  case hy7 => kernel_rfl
  intro K hK
  go_simp
  refine hK _ _ ?_
  clear hK K
  go_upto_region 3 with fail
  refine wp_region_lit ?_
  refine @BigFrame.wpList_want _ _ _ _ _ _ _ ?hy8 ?_
  case hy8 => kernel_rfl
  intro K hK
  go_simp
  refine hK _ _ ?_
  clear hK K
  refine @BigFrame.wpList_want _ _ _ _ _ _ _ ?hy9 ?_
  case hy9 => kernel_rfl
  intro K hK
  go_simp
  refine hK _ _ ?_
  clear hK K
  refine @BigFrame.wpList_want _ _ _ _ _ _ _ ?hy10 ?_
  case hy10 => kernel_rfl
  intro K hK
  go_simp
  go_at_call 13
  refine (HT.out _).mono ?_
  rintro e w3 ⟨rfl, k3⟩
  refine hK _ _ ?_
  clear hK K
  have K3 := Lib.hid (K2.out.behind k3)
  clear k3
  refine @BigFrame.wpList_want _ _ _ _ _ _ _ ?hy11 ?_
  case hy11 => kernel_rfl
  intro K hK
  go_simp
  refine hK _ _ ?_
  clear hK K
  refine @BigFrame.wpList_want _ _ _ _ _ _ _ ?hy12 ?_
  case hy12 => kernel_rfl
  intro K hK
  go_simp
  refine hK _ _ ?_
  clear hK K
  refine @BigFrame.wpList_want _ _ _ _ _ _ _ ?hy13 ?_
  case hy13 => kernel_rfl
  intro K hK
  go_simp
  refine hK _ _ ?_
  clear hK K
  refine wpList_alloc_k rfl 23 rfl (alloc_hash _) ?_
  simp only [Act.put, List.setIfInBounds_toArray, List.set_cons_zero, List.set_cons_succ]
  refine wpList_store_row rfl 23 _ _ rfl (w3.heap.size) zeros32 rfl rfl 23 zeros32 (heap_new _ _) (HZI.out) (rfl) (zeros32_all) ?_
  simp only [Act.put]
  rw [World.setRow_alloc_new]
  have K4 := Lib.hid (K3.out.alloc K3.out.size (.cells zeros32 23))
  generalize w3.alloc (.cells zeros32 23) = w4 at K4 ⊢
  refine @BigFrame.wpList_want _ _ _ _ _ _ _ ?hy14 ?_
  case hy14 => kernel_rfl
  intro K hK
  go_simp
  refine hK _ _ ?_
  clear hK K
  go_wp2_with (first
    | (go_at_call 7; refine (ppr_awake _).mono ?_; rintro e w5 ⟨rfl, k5⟩; have K5 := Lib.hid (K4.out.behind k5))
    | (go_at_call 19; refine (bits_nil _).mono ?_; rintro e w6 ⟨rfl, hw6⟩; subst w6)
    | (go_at_call 14; refine (HG.out _).mono ?_; rintro e w7 ⟨rfl, k7⟩; have K7 := Lib.hid (K5.out.behind k7))
    | (go_at_call 20; refine (seeds_nil _).mono ?_; rintro e w6 ⟨rfl, hw6⟩; subst w6)
    | (go_at_call 21; refine (copy_nil _).mono ?_; rintro e w6 ⟨rfl, hw6⟩; subst w6)
    | (go_at_call 18; refine (pack_nil _).mono ?_; rintro e w6 ⟨rfl, hw6⟩; subst w6))
  go_ret
  exact ⟨rfl, K7.out⟩

end Go.Proofs.YtcoljiopnfgjaaaDoor
