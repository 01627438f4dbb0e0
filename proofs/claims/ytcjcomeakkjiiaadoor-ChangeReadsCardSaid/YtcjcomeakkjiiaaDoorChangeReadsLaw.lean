/-
  The law ChangeReads.
-/
import Derived.Test.YtcjcomeakkjiiaaDoorIE

namespace Go.Proofs.YtcjcomeakkjiiaaDoor
open Go.RowKit Go.Lib

set_option maxRecDepth 100000 in
set_option maxHeartbeats 6400000 in
theorem changereads_walk (s : ByteArray) (w : World) (htab : Tab w) : Calls Tryd.prog 4 #[.string s] w fun e w' => e = .returned (.bool true) ∧ Kept w.heap.size w.heap.size w w' := by
  have HAW := Lib.hid (fun (x : World) (k : Kept w.heap.size w.heap.size w x) => change_awake x (htab.onto k))
  have HUN := Lib.hid (fun (x : World) (k : Kept w.heap.size w.heap.size w x) => unpack_calls10 s x (htab.onto k))
  have HRU := Lib.hid (fun (x : World) => refunpack_calls10 s x)
  have HPK := Lib.hid (fun (h : Cm.unErr s.data.toList = 0) (x : World) (k : Kept w.heap.size w.heap.size w x) => (show Calls Tryd.prog 17 #[.agg (Cm.unCg s.data.toList).cells.toArray] x fun e w' => e = .returned (.string s) ∧ Kept x.heap.size x.heap.size x w' from by
    have := pack_ok10 (Cm.unCg s.data.toList) (Cm.unCg_ok _) (Cm.un_right h).1 x (htab.onto k)
    rw [(Cm.un_right h).2, str_self] at this
    exact this))
  have HEQ := Lib.hid (fun x => cg_equalIn x (Cm.unCg s.data.toList) (Cm.unCg_ok _))
  have HQI := Lib.hid (cgInfo (Cg.size (Cm.unCg_ok s.data.toList)))
  have HQS := Lib.hid (show Cm.zero.cells.toArray.size = (Cm.unCg s.data.toList).cells.toArray.size by rw [Cg.size (Cm.unCg_ok s.data.toList), Cg.size Cm.zero_ok])
  have HQA := Lib.hid (Cm.unCg s.data.toList).all
  have HLQ := Lib.hid (fun (x : World) (b : Nat) (h : x.heap[b]? = some (.cells (Cm.unCg s.data.toList).cells.toArray 27 (0, 0))) => load_cg h (Cm.unCg_ok _))
  obtain ⟨DQ, hDQ⟩ : ∃ D, D = (Cm.unCg s.data.toList).cells.toArray := ⟨_, rfl⟩
  obtain ⟨er, her⟩ : ∃ n, n = Cm.unErr s.data.toList := ⟨_, rfl⟩
  rw [← hDQ] at HUN HRU HPK HEQ HQI HQS HQA HLQ
  rw [← her] at HUN HRU HPK
  have K0 := Lib.hid (Kept.refl w.heap.size w.heap.size w)
  clear hDQ her htab
  go_enter Tryd.func4, Tryd.ntmps4
  by_cases hl : 1000 < s.size
  · have hd : (s.size : Int) > 1000 := by omega
    go_wp2_with (go_at_call 8; refine (HAW.out _ K0.out).mono ?_; rintro e w2 ⟨rfl, k2⟩)
    go_ret
    exact ⟨rfl, k2⟩
  · have hd : ¬ (s.size : Int) > 1000 := by omega
    clear hl
    go_upto_region 3 with fail
    refine wp_region_lit ?_
    refine @BigFrame.wpList_want _ _ _ _ _ _ _ ?hw80026 ?_
    case hw80026 => kernel_rfl
    intro K hK
    go_simp
    refine hK _ _ ?_
    clear hK K
    refine @BigFrame.wpList_want _ _ _ _ _ _ _ ?hw80025 ?_
    case hw80025 => kernel_rfl
    intro K hK
    go_simp
    go_at_call 18
    refine (HUN.out _ K0.out).mono ?_
    rintro e w1 ⟨rfl, k1⟩
    refine hK _ _ ?_
    clear hK K
    refine @BigFrame.wpList_want _ _ _ _ _ _ _ ?hw80027 ?_
    case hw80027 => kernel_rfl
    intro K hK
    go_simp
    refine hK _ _ ?_
    clear hK K
    refine @BigFrame.wpList_want _ _ _ _ _ _ _ ?hw80028 ?_
    case hw80028 => kernel_rfl
    intro K hK
    go_simp
    refine hK _ _ ?_
    clear hK K
    refine @BigFrame.wpList_want _ _ _ _ _ _ _ ?hw80029 ?_
    case hw80029 => kernel_rfl
    intro K hK
    go_simp
    refine hK _ _ ?_
    clear hK K
    refine @wpL_alloc _ _ _ _ _ _ _ _ ?hw80030 27 rfl _ (alloc_cg _) ?_
    case hw80030 => kernel_rfl
    simp only [Act.put, List.setIfInBounds_toArray, List.set_cons_zero, List.set_cons_succ]
    refine wpList_store_row rfl 27 _ _ rfl (w1.heap.size) DQ rfl rfl 27 Cm.zero.cells.toArray (heap_new _ _) (HQI.out) (HQS.out) (HQA.out) ?_
    simp only [Act.put]
    rw [World.setRow_alloc_new]
    refine @BigFrame.wpList_want _ _ _ _ _ _ _ ?hw80031 ?_
    case hw80031 => kernel_rfl
    intro K hK
    go_simp
    refine hK _ _ ?_
    clear hK K
    have kn : Kept w1.heap.size w1.heap.size w1 (w1.alloc (.cells DQ 27)) := (Kept.refl _ _ _).alloc (Nat.le_refl _) _
    have rba := heap_new w1 (.cells DQ 27)
    have Kw2 := k1.onto kn
    generalize w1.alloc (.cells DQ 27) = w2 at kn rba Kw2  ⊢
    obtain ⟨ba, hba⟩ : ∃ n, n = w1.heap.size := ⟨_, rfl⟩
    rw [← hba] at rba
    (try rw [← hba])
    clear hba kn
    have KH2 := Lib.hid Kw2
    have RA2 := Lib.hid rba
    clear Kw2 rba k1
    go_upto_region 4 with fail
    refine wp_region_lit ?_
    refine @BigFrame.wpList_want _ _ _ _ _ _ _ ?hw80033 ?_
    case hw80033 => kernel_rfl
    intro K hK
    go_simp
    refine hK _ _ ?_
    clear hK K
    refine @BigFrame.wpList_want _ _ _ _ _ _ _ ?hw80032 ?_
    case hw80032 => kernel_rfl
    intro K hK
    go_simp
    go_at_call 23
    refine (HRU.out _).mono ?_
    rintro e w3 ⟨rfl, k3⟩
    refine hK _ _ ?_
    clear hK K
    refine @BigFrame.wpList_want _ _ _ _ _ _ _ ?hw80034 ?_
    case hw80034 => kernel_rfl
    intro K hK
    go_simp
    refine hK _ _ ?_
    clear hK K
    refine @BigFrame.wpList_want _ _ _ _ _ _ _ ?hw80035 ?_
    case hw80035 => kernel_rfl
    intro K hK
    go_simp
    refine hK _ _ ?_
    clear hK K
    refine @BigFrame.wpList_want _ _ _ _ _ _ _ ?hw80036 ?_
    case hw80036 => kernel_rfl
    intro K hK
    go_simp
    refine hK _ _ ?_
    clear hK K
    refine @wpL_alloc _ _ _ _ _ _ _ _ ?hw80037 27 rfl _ (alloc_cg _) ?_
    case hw80037 => kernel_rfl
    simp only [Act.put, List.setIfInBounds_toArray, List.set_cons_zero, List.set_cons_succ]
    refine wpList_store_row rfl 27 _ _ rfl (w3.heap.size) DQ rfl rfl 27 Cm.zero.cells.toArray (heap_new _ _) (HQI.out) (HQS.out) (HQA.out) ?_
    simp only [Act.put]
    rw [World.setRow_alloc_new]
    refine @BigFrame.wpList_want _ _ _ _ _ _ _ ?hw80038 ?_
    case hw80038 => kernel_rfl
    intro K hK
    go_simp
    refine hK _ _ ?_
    clear hK K
    have rba := row_kept RA2.out k3
    have K3 := KH2.out.onto k3
    have kn : Kept w3.heap.size w3.heap.size w3 (w3.alloc (.cells DQ 27)) := (Kept.refl _ _ _).alloc (Nat.le_refl _) _
    have rbb := heap_new w3 (.cells DQ 27)
    have rban := row_kept rba kn
    have Kw4 := K3.onto kn
    generalize w3.alloc (.cells DQ 27) = w4 at kn rbb Kw4 rban ⊢
    obtain ⟨bb, hbb⟩ : ∃ n, n = w3.heap.size := ⟨_, rfl⟩
    rw [← hbb] at rbb
    (try rw [← hbb])
    clear hbb kn
    have K4 := Lib.hid Kw4
    have RA := Lib.hid rban
    have RB := Lib.hid rbb
    clear Kw4 rban rba rbb K3 k3 RA2 KH2
    by_cases he : er = 0
    · subst he
      have HPK2 := Lib.hid (HPK.out rfl)
      go_upto_region 5 with fail
      refine wp_region_lit ?_
      refine @BigFrame.wpList_want _ _ _ _ _ _ _ ?hw80039 ?_
      case hw80039 => kernel_rfl
      intro K hK
      go_simp
      go_at_call 8
      refine (HAW.out _ K4.out).mono ?_
      rintro e w5 ⟨rfl, k5⟩
      have K5 := Lib.hid (K4.out.onto k5)
      have RA5 := Lib.hid (row_kept RA.out k5)
      have RB5 := Lib.hid (row_kept RB.out k5)
      clear k5
      refine hK _ _ ?_
      clear hK K
      refine @BigFrame.wpList_want _ _ _ _ _ _ _ ?hw80041 ?_
      case hw80041 => kernel_rfl
      intro K hK
      go_simp
      refine hK _ _ ?_
      clear hK K
      refine @BigFrame.wpList_want _ _ _ _ _ _ _ ?hw80042 ?_
      case hw80042 => kernel_rfl
      intro K hK
      go_simp
      refine hK _ _ ?_
      clear hK K
      refine @BigFrame.wpList_want _ _ _ _ _ _ _ ?hw80043 ?_
      case hw80043 => kernel_rfl
      intro K hK
      go_simp
      refine hK _ _ ?_
      clear hK K
      refine @BigFrame.wpList_want _ _ _ _ _ _ _ ?hw80044 ?_
      case hw80044 => kernel_rfl
      intro K hK
      go_simp
      refine hK _ _ ?_
      clear hK K
      refine @BigFrame.wpList_want _ _ _ _ _ _ _ ?hw80045 ?_
      case hw80045 => kernel_rfl
      intro K hK
      go_simp
      refine hK _ _ ?_
      clear hK K
      refine @BigFrame.wpList_want _ _ _ _ _ _ _ ?hw80046 ?_
      case hw80046 => kernel_rfl
      intro K hK
      go_simp
      refine hK _ _ ?_
      clear hK K
      refine @wpList_load_known _ _ _ _ _ _ _ ?hw80047 27 (.tmp 3) rfl (ba) (0) rfl (.agg DQ) (HLQ.out _ _ RA5.out) ?_
      case hw80047 => kernel_rfl
      simp only [Act.put, List.setIfInBounds_toArray, List.set_cons_zero, List.set_cons_succ]
      refine @wpList_load_known _ _ _ _ _ _ _ ?hw80048 27 (.tmp 5) rfl (bb) (0) rfl (.agg DQ) (HLQ.out _ _ RB5.out) ?_
      case hw80048 => kernel_rfl
      simp only [Act.put, List.setIfInBounds_toArray, List.set_cons_zero, List.set_cons_succ]
      refine @wpL_eql10 _ _ _ _ _ _ _ ?hw80049 _ _ _ _ rfl (DQ) (DQ) rfl rfl cgGuard (true) (HEQ.out _) ?_
      case hw80049 => kernel_rfl
      simp only [Act.put, List.setIfInBounds_toArray, List.set_cons_zero, List.set_cons_succ]
      refine @BigFrame.wpList_want _ _ _ _ _ _ _ ?hw80050 ?_
      case hw80050 => kernel_rfl
      intro K hK
      go_simp
      refine hK _ _ ?_
      clear hK K
      refine @BigFrame.wpList_want _ _ _ _ _ _ _ ?hw80051 ?_
      case hw80051 => kernel_rfl
      intro K hK
      go_simp
      refine hK _ _ ?_
      clear hK K
      refine @BigFrame.wpList_want _ _ _ _ _ _ _ ?hw80052 ?_
      case hw80052 => kernel_rfl
      intro K hK
      go_simp
      refine hK _ _ ?_
      clear hK K
      refine @BigFrame.wpList_want _ _ _ _ _ _ _ ?hw80053 ?_
      case hw80053 => kernel_rfl
      intro K hK
      go_simp
      refine hK _ _ ?_
      clear hK K
      refine @BigFrame.wpList_want _ _ _ _ _ _ _ ?hw80054 ?_
      case hw80054 => kernel_rfl
      intro K hK
      go_simp
      refine hK _ _ ?_
      clear hK K
      refine @wpList_load_known _ _ _ _ _ _ _ ?hw80055 27 (.tmp 3) rfl (ba) (0) rfl (.agg DQ) (HLQ.out _ _ RA5.out) ?_
      case hw80055 => kernel_rfl
      simp only [Act.put, List.setIfInBounds_toArray, List.set_cons_zero, List.set_cons_succ]
      refine @BigFrame.wpList_want _ _ _ _ _ _ _ ?hw80040 ?_
      case hw80040 => kernel_rfl
      intro K hK
      go_simp
      go_at_call 17
      refine (HPK2.out _ K5.out).mono ?_
      rintro e w6 ⟨rfl, k6⟩
      refine hK _ _ ?_
      clear hK K
      refine @BigFrame.wpList_want _ _ _ _ _ _ _ ?hw80056 ?_
      case hw80056 => kernel_rfl
      intro K hK
      go_simp
      refine hK _ _ ?_
      clear hK K
      refine @BigFrame.wpList_want _ _ _ _ _ _ _ ?hw80057 ?_
      case hw80057 => kernel_rfl
      intro K hK
      go_simp
      refine hK _ _ ?_
      clear hK K
      refine @BigFrame.wpList_want _ _ _ _ _ _ _ ?hw80058 ?_
      case hw80058 => kernel_rfl
      intro K hK
      go_simp
      refine hK _ _ ?_
      clear hK K
      refine @BigFrame.wpList_want _ _ _ _ _ _ _ ?hw80059 ?_
      case hw80059 => kernel_rfl
      intro K hK
      go_simp
      refine hK _ _ ?_
      clear hK K
      refine @BigFrame.wpList_want _ _ _ _ _ _ _ ?hw80060 ?_
      case hw80060 => kernel_rfl
      intro K hK
      go_simp
      refine hK _ _ ?_
      clear hK K
      go_wp2
      go_ret
      exact ⟨rfl, K5.out.onto k6⟩
    · have hx : (er != 0) = true := by simpa using he
      clear he HPK
      go_upto_region 5 with fail
      refine wp_region_lit ?_
      refine @BigFrame.wpList_want _ _ _ _ _ _ _ ?hw80039 ?_
      case hw80039 => kernel_rfl
      intro K hK
      go_simp
      go_at_call 8
      refine (HAW.out _ K4.out).mono ?_
      rintro e w5 ⟨rfl, k5⟩
      have K5 := Lib.hid (K4.out.onto k5)
      have RA5 := Lib.hid (row_kept RA.out k5)
      have RB5 := Lib.hid (row_kept RB.out k5)
      clear k5
      refine hK _ _ ?_
      clear hK K
      refine @BigFrame.wpList_want _ _ _ _ _ _ _ ?hw80061 ?_
      case hw80061 => kernel_rfl
      intro K hK
      go_simp
      refine hK _ _ ?_
      clear hK K
      refine @BigFrame.wpList_want _ _ _ _ _ _ _ ?hw80062 ?_
      case hw80062 => kernel_rfl
      intro K hK
      go_simp
      refine hK _ _ ?_
      clear hK K
      refine @BigFrame.wpList_want _ _ _ _ _ _ _ ?hw80063 ?_
      case hw80063 => kernel_rfl
      intro K hK
      go_simp
      refine hK _ _ ?_
      clear hK K
      refine @BigFrame.wpList_want _ _ _ _ _ _ _ ?hw80064 ?_
      case hw80064 => kernel_rfl
      intro K hK
      go_simp
      refine hK _ _ ?_
      clear hK K
      refine @BigFrame.wpList_want _ _ _ _ _ _ _ ?hw80065 ?_
      case hw80065 => kernel_rfl
      intro K hK
      go_simp
      refine hK _ _ ?_
      clear hK K
      refine @BigFrame.wpList_want _ _ _ _ _ _ _ ?hw80066 ?_
      case hw80066 => kernel_rfl
      intro K hK
      go_simp
      refine hK _ _ ?_
      clear hK K
      refine @wpList_load_known _ _ _ _ _ _ _ ?hw80067 27 (.tmp 3) rfl (ba) (0) rfl (.agg DQ) (HLQ.out _ _ RA5.out) ?_
      case hw80067 => kernel_rfl
      simp only [Act.put, List.setIfInBounds_toArray, List.set_cons_zero, List.set_cons_succ]
      refine @wpList_load_known _ _ _ _ _ _ _ ?hw80068 27 (.tmp 5) rfl (bb) (0) rfl (.agg DQ) (HLQ.out _ _ RB5.out) ?_
      case hw80068 => kernel_rfl
      simp only [Act.put, List.setIfInBounds_toArray, List.set_cons_zero, List.set_cons_succ]
      refine @wpL_eql10 _ _ _ _ _ _ _ ?hw80069 _ _ _ _ rfl (DQ) (DQ) rfl rfl cgGuard (true) (HEQ.out _) ?_
      case hw80069 => kernel_rfl
      simp only [Act.put, List.setIfInBounds_toArray, List.set_cons_zero, List.set_cons_succ]
      refine @BigFrame.wpList_want _ _ _ _ _ _ _ ?hw80070 ?_
      case hw80070 => kernel_rfl
      intro K hK
      go_simp
      refine hK _ _ ?_
      clear hK K
      refine @BigFrame.wpList_want _ _ _ _ _ _ _ ?hw80071 ?_
      case hw80071 => kernel_rfl
      intro K hK
      go_simp
      refine hK _ _ ?_
      clear hK K
      refine @BigFrame.wpList_want _ _ _ _ _ _ _ ?hw80072 ?_
      case hw80072 => kernel_rfl
      intro K hK
      go_simp
      refine hK _ _ ?_
      clear hK K
      refine @BigFrame.wpList_want _ _ _ _ _ _ _ ?hw80073 ?_
      case hw80073 => kernel_rfl
      intro K hK
      go_simp
      refine hK _ _ ?_
      clear hK K
      refine @BigFrame.wpList_want _ _ _ _ _ _ _ ?hw80074 ?_
      case hw80074 => kernel_rfl
      intro K hK
      go_simp
      refine hK _ _ ?_
      clear hK K
      refine @wpList_skip _ _ _ _ _ _ _ ?hw80075 ?_
      case hw80075 => kernel_rfl
      simp only [Act.put, List.setIfInBounds_toArray, List.set_cons_zero, List.set_cons_succ]
      refine @wpList_skip _ _ _ _ _ _ _ ?hw80076 ?_
      case hw80076 => kernel_rfl
      simp only [Act.put, List.setIfInBounds_toArray, List.set_cons_zero, List.set_cons_succ]
      refine @wpList_skip _ _ _ _ _ _ _ ?hw80077 ?_
      case hw80077 => kernel_rfl
      simp only [Act.put, List.setIfInBounds_toArray, List.set_cons_zero, List.set_cons_succ]
      refine @wpList_skip _ _ _ _ _ _ _ ?hw80078 ?_
      case hw80078 => kernel_rfl
      simp only [Act.put, List.setIfInBounds_toArray, List.set_cons_zero, List.set_cons_succ]
      refine @BigFrame.wpList_want _ _ _ _ _ _ _ ?hw80079 ?_
      case hw80079 => kernel_rfl
      intro K hK
      go_simp
      refine hK _ _ ?_
      clear hK K
      refine @BigFrame.wpList_want _ _ _ _ _ _ _ ?hw80080 ?_
      case hw80080 => kernel_rfl
      intro K hK
      go_simp
      refine hK _ _ ?_
      clear hK K
      refine @BigFrame.wpList_want _ _ _ _ _ _ _ ?hw80081 ?_
      case hw80081 => kernel_rfl
      intro K hK
      go_simp
      refine hK _ _ ?_
      clear hK K
      go_wp2
      go_ret
      exact ⟨rfl, K5.out⟩


end Go.Proofs.YtcjcomeakkjiiaaDoor
