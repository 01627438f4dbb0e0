/-
  Is a proposal right, by the document?
-/
import Derived.Test.YtcjcomeakkjiiaaDoorChgRight

namespace Go.Proofs.YtcjcomeakkjiiaaDoor
open Go.RowKit Go.Lib

set_option maxRecDepth 100000 in
set_option maxHeartbeats 6400000 in
theorem refright_calls10 (p : Cg) (hp : p.Ok) (w : World) : Calls Tryd.prog 10 #[.agg p.cells.toArray] w fun e w' => e = .returned (.bool (Cm.right p)) ∧ Kept w.heap.size w.heap.size w w' := by
  have R1 := heap_new w (.cells p.cells.toArray 27)
  have k1 : Kept w.heap.size w.heap.size w (w.alloc (.cells p.cells.toArray 27)) := (Kept.refl _ _ _).alloc (Nat.le_refl _) _
  have hch := load_chg (cg_chg R1 hp) hp
  have hca : ∀ (x : World) (b : Nat), x.heap[b]? = some (.cells p.cells.toArray 27 (0, 0)) → x.cell? ⟨b, 32, none⟩ = some (.int .i64 p.depth) ∧ x.cell? ⟨b, 33, none⟩ = some (.int .i64 p.author) ∧ x.cell? ⟨b, 34, none⟩ = some (.int .i64 p.seq) := fun x b h => ⟨cg_depth h hp, cg_author h hp, cg_seq h hp⟩
  have hcs := Cg.csize hp
  have hall := p.call
  have heq := fun w => hash_equalIn w p.pub Cm.z32 hp.2.1 rfl
  have hR : Cm.right p = (Cm.nums p.depth p.seq && (Cm.isNm p.author && Cm.isNm p.name) && Cm.kinds p) := rfl
  have hk2 : p.kind = 2 → Cm.kinds p = (p.name == p.author) := Cm.kinds_2
  have hkz : (p.kind = 1 ∨ p.kind = 3) → Cm.kinds p = (p.pub == Cm.z32) := Cm.kinds_z
  have hkn : p.kind ≠ 2 → p.kind ≠ 1 → p.kind ≠ 3 → Cm.kinds p = false := Cm.kinds_n
  have hcb : ∀ (x : World) (b : Nat), x.heap[b]? = some (.cells p.chg.toArray 25 (0, 0)) → x.cell? ⟨b, 0, none⟩ = some (.int .i64 p.kind) ∧ x.cell? ⟨b, 1, none⟩ = some (.int .i64 p.name) ∧ (loadVar 23 ⟨b, 2, none⟩).run Tryd.prog x = .ok (.agg (bcells p.pub).toArray) x := fun x b h => ⟨chg_kind (row_range0 h), chg_name (row_range0 h), load_hash (chg_pub (row_range0 h)) hp.2.1⟩
  generalize p.depth = dp at hca hR
  generalize p.seq = sq at hca hR
  generalize p.author = au at hca hR hk2
  generalize p.kind = kd at hk2 hkz hkn hcb
  generalize p.name = nm at hR hk2 hcb
  generalize (p.pub == Cm.z32) = qz at heq hkz
  generalize (bcells p.pub).toArray = cpb at heq hcb
  have hb0 := build_hash0
  generalize (bcells Cm.z32).toArray = cz at heq hb0
  generalize p.chg.toArray = D2 at hch hcs hall hcb
  have HB0 := Lib.hid hb0
  have HCH := Lib.hid hch
  have HCA := Lib.hid hca
  have HEQ := Lib.hid heq
  have HR := Lib.hid hR
  have HK2 := Lib.hid hk2
  have HKZ := Lib.hid hkz
  have HKN := Lib.hid hkn
  have HCB := Lib.hid hcb
  have HCS := Lib.hid hcs
  have HAL := Lib.hid hall
  clear heq hR hk2 hkz hkn hcb hcs hall hch hca hb0
  go_enter Tryd.func10, Tryd.ntmps10
  go_upto_region 1 with fail
  generalize p.cells.toArray = D at R1 k1 HCA HCH ⊢
  generalize w.alloc (.cells D 27) = w1 at R1 k1 HCH ⊢
  obtain ⟨lb, hlb⟩ : ∃ lb, lb = w.heap.size := ⟨_, rfl⟩
  rw [← hlb] at R1 HCH ⊢
  have K0 := Lib.hid k1
  have R0 := Lib.hid R1
  clear hlb k1 R1
  refine wp_region_lit ?_
  refine @BigFrame.wpList_want _ _ _ _ _ _ _ ?hw71021 ?_
  case hw71021 => kernel_rfl
  intro K hK
  go_simp
  refine hK _ _ ?_
  clear hK K
  refine @wpList_load_known _ _ _ _ _ _ _ ?hw71022 25 (.tmp 4) rfl (lb) (35) rfl (.agg D2) (HCH.out) ?_
  case hw71022 => kernel_rfl
  simp only [Act.put, List.setIfInBounds_toArray, List.set_cons_zero, List.set_cons_succ]
  refine @wpL_alloc _ _ _ _ _ _ _ _ ?hw71023 25 rfl _ (alloc_chg _) ?_
  case hw71023 => kernel_rfl
  simp only [Act.put, List.setIfInBounds_toArray, List.set_cons_zero, List.set_cons_succ]
  refine wpList_store_row rfl 25 _ _ rfl (w1.heap.size) D2 rfl rfl 25 Cm.zero.chg.toArray (heap_new _ _) (chgInfo HCS.out) (by rw [HCS.out]; exact Cg.csize Cm.zero_ok) (HAL.out) ?_
  simp only [Act.put]
  rw [World.setRow_alloc_new]
  have R2 := heap_new w1 (.cells D2 25)
  have k2 : Kept w1.heap.size w1.heap.size w1 (w1.alloc (.cells D2 25)) := (Kept.refl _ _ _).alloc (Nat.le_refl _) _
  have K1 := Lib.hid (K0.out.onto k2)
  obtain ⟨c1, c2, c3⟩ := HCA.out _ _ (row_kept R0.out k2)
  obtain ⟨c4, c5, hpb⟩ := HCB.out _ _ R2
  have HPB := Lib.hid hpb
  generalize w1.alloc (.cells D2 25) = w2 at K1 c1 c2 c3 c4 c5 HPB ⊢
  obtain ⟨cb, hcb⟩ : ∃ cb, cb = w1.heap.size := ⟨_, rfl⟩
  rw [← hcb] at c4 c5 HPB ⊢
  clear hcb hpb k2 R2 HCA HCB HCH HCS HAL
  by_cases n1 : dp < 0
  · have n1' := n1
    have HF := Lib.hid (show Cm.right p = false by
        rw [HR.out, show Cm.nums dp sq = false by
          simp only [Cm.nums, Bool.and_eq_false_iff, decide_eq_false_iff_not]
          omega]
        rfl)
    go_wp2
    go_ret
    rw [HF.out]
    exact ⟨by first | rfl | simp, K1.out⟩
  · by_cases n2 : dp > 4611686018427387903
    · have n2' := n2
      have HF := Lib.hid (show Cm.right p = false by
          rw [HR.out, show Cm.nums dp sq = false by
            simp only [Cm.nums, Bool.and_eq_false_iff, decide_eq_false_iff_not]
            omega]
          rfl)
      go_wp2
      go_ret
      rw [HF.out]
      exact ⟨by first | rfl | simp, K1.out⟩
    · by_cases n3 : sq < 1
      · have n3' := n3
        have HF := Lib.hid (show Cm.right p = false by
            rw [HR.out, show Cm.nums dp sq = false by
              simp only [Cm.nums, Bool.and_eq_false_iff, decide_eq_false_iff_not]
              omega]
            rfl)
        go_wp2
        go_ret
        rw [HF.out]
        exact ⟨by first | rfl | simp, K1.out⟩
      · by_cases n4 : sq > 4611686018427387903
        · have n4' := n4
          have HF := Lib.hid (show Cm.right p = false by
              rw [HR.out, show Cm.nums dp sq = false by
                simp only [Cm.nums, Bool.and_eq_false_iff, decide_eq_false_iff_not]
                omega]
              rfl)
          go_wp2
          go_ret
          rw [HF.out]
          exact ⟨by first | rfl | simp, K1.out⟩
        · have hnn : Cm.nums dp sq = true := by
            simp only [Cm.nums, Bool.and_eq_true, decide_eq_true_eq]
            omega
          have HR2 : Hid (Cm.right p = ((Cm.isNm au && Cm.isNm nm) && Cm.kinds p)) := Lib.hid (by rw [HR.out, hnn, Bool.true_and])
          clear hnn
          by_cases a1 : au < 1
          · have a1' := a1
            have HF := Lib.hid (show Cm.right p = false by
                rw [HR2.out, show Cm.isNm au = false by
                  simp only [Cm.isNm, Bool.and_eq_false_iff, decide_eq_false_iff_not]
                  omega]
                simp)
            go_wp2
            go_ret
            rw [HF.out]
            exact ⟨by first | rfl | simp, K1.out⟩
          · by_cases a2 : au > 64
            · have a2' := a2
              have HF := Lib.hid (show Cm.right p = false by
                  rw [HR2.out, show Cm.isNm au = false by
                    simp only [Cm.isNm, Bool.and_eq_false_iff, decide_eq_false_iff_not]
                    omega]
                  simp)
              go_wp2
              go_ret
              rw [HF.out]
              exact ⟨by first | rfl | simp, K1.out⟩
            · by_cases a3 : nm < 1
              · have a3' := a3
                have HF := Lib.hid (show Cm.right p = false by
                    rw [HR2.out, show Cm.isNm nm = false by
                      simp only [Cm.isNm, Bool.and_eq_false_iff, decide_eq_false_iff_not]
                      omega]
                    simp)
                go_wp2
                go_ret
                rw [HF.out]
                exact ⟨by first | rfl | simp, K1.out⟩
              · by_cases a4 : nm > 64
                · have a4' := a4
                  have HF := Lib.hid (show Cm.right p = false by
                      rw [HR2.out, show Cm.isNm nm = false by
                        simp only [Cm.isNm, Bool.and_eq_false_iff, decide_eq_false_iff_not]
                        omega]
                      simp)
                  go_wp2
                  go_ret
                  rw [HF.out]
                  exact ⟨by first | rfl | simp, K1.out⟩
                · have HR3 : Hid (Cm.right p = Cm.kinds p) := Lib.hid (by
                    rw [HR2.out, Cm.isNm_iff.2 (show 1 ≤ au ∧ au ≤ 64 by omega), Cm.isNm_iff.2 (show 1 ≤ nm ∧ nm ≤ 64 by omega)]
                    rfl)
                  by_cases e2 : kd = 2
                  · have HF : Hid (Cm.right p = (nm == au)) := Lib.hid (by rw [HR3.out, HK2.out e2])
                    subst e2
                    go_wp2
                    go_ret
                    rw [HF.out]
                    exact ⟨by first | rfl | simp, K1.out⟩
                  · have b2 : (kd == 2) = false := beq_eq_false_iff_ne.2 e2
                    by_cases e1 : kd = 1
                    · have HF : Hid (Cm.right p = qz) := Lib.hid (by rw [HR3.out, HKZ.out (.inl e1)])
                      subst e1
                      clear e2
                      go_upto_region 8 with fail
                      refine wp_region_lit ?_
                      refine @BigFrame.wpList_want _ _ _ _ _ _ _ ?hw71024 ?_
                      case hw71024 => kernel_rfl
                      intro K hK
                      go_simp
                      refine hK _ _ ?_
                      clear hK K
                      refine @BigFrame.wpList_want _ _ _ _ _ _ _ ?hw71025 ?_
                      case hw71025 => kernel_rfl
                      intro K hK
                      go_simp
                      refine hK _ _ ?_
                      clear hK K
                      refine @BigFrame.wpList_want _ _ _ _ _ _ _ ?hw71026 ?_
                      case hw71026 => kernel_rfl
                      intro K hK
                      go_simp
                      refine hK _ _ ?_
                      clear hK K
                      refine @BigFrame.wpList_want _ _ _ _ _ _ _ ?hw71027 ?_
                      case hw71027 => kernel_rfl
                      intro K hK
                      go_simp
                      refine hK _ _ ?_
                      clear hK K
                      refine @wpList_skip _ _ _ _ _ _ _ ?hw71028 ?_
                      case hw71028 => kernel_rfl
                      simp only [Act.put, List.setIfInBounds_toArray, List.set_cons_zero, List.set_cons_succ]
                      refine @wpList_skip _ _ _ _ _ _ _ ?hw71029 ?_
                      case hw71029 => kernel_rfl
                      simp only [Act.put, List.setIfInBounds_toArray, List.set_cons_zero, List.set_cons_succ]
                      refine @wpList_skip _ _ _ _ _ _ _ ?hw71030 ?_
                      case hw71030 => kernel_rfl
                      simp only [Act.put, List.setIfInBounds_toArray, List.set_cons_zero, List.set_cons_succ]
                      refine @BigFrame.wpList_want _ _ _ _ _ _ _ ?hw71031 ?_
                      case hw71031 => kernel_rfl
                      intro K hK
                      go_simp
                      refine hK _ _ ?_
                      clear hK K
                      refine @BigFrame.wpList_want _ _ _ _ _ _ _ ?hw71032 ?_
                      case hw71032 => kernel_rfl
                      intro K hK
                      go_simp
                      refine hK _ _ ?_
                      clear hK K
                      refine @BigFrame.wpList_want _ _ _ _ _ _ _ ?hw71033 ?_
                      case hw71033 => kernel_rfl
                      intro K hK
                      go_simp
                      refine hK _ _ ?_
                      clear hK K
                      refine @wpList_load_known _ _ _ _ _ _ _ ?hw71034 23 (.tmp 59) rfl (cb) (2) rfl (.agg cpb) (HPB.out) ?_
                      case hw71034 => kernel_rfl
                      simp only [Act.put, List.setIfInBounds_toArray, List.set_cons_zero, List.set_cons_succ]
                      refine @wpL_build0 _ _ _ _ _ _ _ ?hw71035 23 rfl _ (HB0.out _) ?_
                      case hw71035 => kernel_rfl
                      simp only [Act.put, List.setIfInBounds_toArray, List.set_cons_zero, List.set_cons_succ]
                      refine @wpL_eql10 _ _ _ _ _ _ _ ?hw71036 _ _ _ _ rfl (cpb) (cz) rfl rfl macGuard25 (qz) (HEQ.out _) ?_
                      case hw71036 => kernel_rfl
                      simp only [Act.put, List.setIfInBounds_toArray, List.set_cons_zero, List.set_cons_succ]
                      refine @BigFrame.wpList_want _ _ _ _ _ _ _ ?hw71037 ?_
                      case hw71037 => kernel_rfl
                      intro K hK
                      go_simp
                      refine hK _ _ ?_
                      clear hK K
                      refine @BigFrame.wpList_want _ _ _ _ _ _ _ ?hw71038 ?_
                      case hw71038 => kernel_rfl
                      intro K hK
                      go_simp
                      refine hK _ _ ?_
                      clear hK K
                      go_wp2
                      go_ret
                      rw [HF.out]
                      exact ⟨by first | rfl | simp, K1.out⟩
                    · have b1 : (kd == 1) = false := beq_eq_false_iff_ne.2 e1
                      by_cases e3 : kd = 3
                      · have HF : Hid (Cm.right p = qz) := Lib.hid (by rw [HR3.out, HKZ.out (.inr e3)])
                        subst e3
                        clear b1 e1 e2
                        go_upto_region 8 with fail
                        refine wp_region_lit ?_
                        refine @BigFrame.wpList_want _ _ _ _ _ _ _ ?hw71039 ?_
                        case hw71039 => kernel_rfl
                        intro K hK
                        go_simp
                        refine hK _ _ ?_
                        clear hK K
                        refine @BigFrame.wpList_want _ _ _ _ _ _ _ ?hw71040 ?_
                        case hw71040 => kernel_rfl
                        intro K hK
                        go_simp
                        refine hK _ _ ?_
                        clear hK K
                        refine @BigFrame.wpList_want _ _ _ _ _ _ _ ?hw71041 ?_
                        case hw71041 => kernel_rfl
                        intro K hK
                        go_simp
                        refine hK _ _ ?_
                        clear hK K
                        refine @BigFrame.wpList_want _ _ _ _ _ _ _ ?hw71042 ?_
                        case hw71042 => kernel_rfl
                        intro K hK
                        go_simp
                        refine hK _ _ ?_
                        clear hK K
                        refine @BigFrame.wpList_want _ _ _ _ _ _ _ ?hw71043 ?_
                        case hw71043 => kernel_rfl
                        intro K hK
                        go_simp
                        refine hK _ _ ?_
                        clear hK K
                        refine @BigFrame.wpList_want _ _ _ _ _ _ _ ?hw71044 ?_
                        case hw71044 => kernel_rfl
                        intro K hK
                        go_simp
                        refine hK _ _ ?_
                        clear hK K
                        refine @BigFrame.wpList_want _ _ _ _ _ _ _ ?hw71045 ?_
                        case hw71045 => kernel_rfl
                        intro K hK
                        go_simp
                        refine hK _ _ ?_
                        clear hK K
                        refine @BigFrame.wpList_want _ _ _ _ _ _ _ ?hw71046 ?_
                        case hw71046 => kernel_rfl
                        intro K hK
                        go_simp
                        refine hK _ _ ?_
                        clear hK K
                        refine @BigFrame.wpList_want _ _ _ _ _ _ _ ?hw71047 ?_
                        case hw71047 => kernel_rfl
                        intro K hK
                        go_simp
                        refine hK _ _ ?_
                        clear hK K
                        refine @BigFrame.wpList_want _ _ _ _ _ _ _ ?hw71048 ?_
                        case hw71048 => kernel_rfl
                        intro K hK
                        go_simp
                        refine hK _ _ ?_
                        clear hK K
                        refine @wpList_load_known _ _ _ _ _ _ _ ?hw71049 23 (.tmp 59) rfl (cb) (2) rfl (.agg cpb) (HPB.out) ?_
                        case hw71049 => kernel_rfl
                        simp only [Act.put, List.setIfInBounds_toArray, List.set_cons_zero, List.set_cons_succ]
                        refine @wpL_build0 _ _ _ _ _ _ _ ?hw71050 23 rfl _ (HB0.out _) ?_
                        case hw71050 => kernel_rfl
                        simp only [Act.put, List.setIfInBounds_toArray, List.set_cons_zero, List.set_cons_succ]
                        refine @wpL_eql10 _ _ _ _ _ _ _ ?hw71051 _ _ _ _ rfl (cpb) (cz) rfl rfl macGuard25 (qz) (HEQ.out _) ?_
                        case hw71051 => kernel_rfl
                        simp only [Act.put, List.setIfInBounds_toArray, List.set_cons_zero, List.set_cons_succ]
                        refine @BigFrame.wpList_want _ _ _ _ _ _ _ ?hw71052 ?_
                        case hw71052 => kernel_rfl
                        intro K hK
                        go_simp
                        refine hK _ _ ?_
                        clear hK K
                        refine @BigFrame.wpList_want _ _ _ _ _ _ _ ?hw71053 ?_
                        case hw71053 => kernel_rfl
                        intro K hK
                        go_simp
                        refine hK _ _ ?_
                        clear hK K
                        go_wp2
                        go_ret
                        rw [HF.out]
                        exact ⟨by first | rfl | simp, K1.out⟩
                      · have b3 : (kd == 3) = false := beq_eq_false_iff_ne.2 e3
                        have HF : Hid (Cm.right p = false) := Lib.hid (by rw [HR3.out, HKN.out e2 e1 e3])
                        clear e1 e2 e3
                        go_wp2
                        go_ret
                        rw [HF.out]
                        exact ⟨by first | rfl | simp, K1.out⟩

end Go.Proofs.YtcjcomeakkjiiaaDoor
