/-
  The walk of the statement PrimChecks: a signature is right just if it is the document's.
-/
import Derived.Test.YtmcnmcnmcpfmiaaGN

namespace Go.Proofs.Ytmcnmcnmcpfmiaa
open Go.RowKit Go.Lib

set_option maxRecDepth 100000 in
set_option maxHeartbeats 3200000 in
theorem primchecks_walk (l : List UInt8) (hl : l.length = 32) (s : ByteArray) (m : List UInt8) (hm : m.length = 32) (w : World) : Calls Try.prog 15 #[.agg (bcells l).toArray, .string s, .agg (bcells m).toArray] w fun e w' => e = .returned (.bool true) ∧ Kept w.heap.size w.heap.size w w' := by
  have c1 := fun hs w => refsign_calls l (Lib.hid hl) s hs w
  have c2 := fun hs w => check_calls l m (Lib.hid hl) (Lib.hid hm) s hs w
  have c3 := fun hs w => check_calls l (Pm.sign l s.data.toList) (Lib.hid hl) (Lib.hid (Pm.sign_length _ _)) s hs w
  have heq := fun w => hash_equalIn w m (Pm.sign l s.data.toList) hm (Pm.sign_length _ _)
  have gd := macGuard25
  have hki := keyInfo hl
  have hmi := keyInfo hm
  have hiu := keyInfo (Pm.sign_length l s.data.toList)
  have hzu := keySize (Pm.sign_length l s.data.toList)
  have hau := bcells_all (Pm.sign l s.data.toList)
  simp only [beq_self_eq_true] at c3
  generalize (m == Pm.sign l s.data.toList) = q at c2 heq
  generalize (bcells (Pm.sign l s.data.toList)).toArray = cu at c1 c3 heq hiu hzu hau
  generalize (bcells l).toArray = kc at c1 c2 c3 hki ⊢
  generalize (bcells m).toArray = mc at c2 heq hmi ⊢
  have haw := fun w => prim_awake w
  have HAW := Lib.hid haw
  have C1 := Lib.hid c1
  have C2 := Lib.hid c2
  have C3 := Lib.hid c3
  have HKI := Lib.hid hki
  have HMI := Lib.hid hmi
  have HIU := Lib.hid hiu
  have HZU := Lib.hid hzu
  have HAU := Lib.hid hau
  clear c1 c2 c3 hki hmi hiu hzu hau haw
  go_enter Try.func15, Try.ntmps15
  go_upto_region 1 with fail
  have hP : ((w.alloc (.cells kc 39)).alloc (.cells mc 39)).heap[w.heap.size]? = some (.cells kc 39 (0, 0)) := heap_alloc2_old w _ _
  have hM : ((w.alloc (.cells kc 39)).alloc (.cells mc 39)).heap[w.heap.size + 1]? = some (.cells mc 39 (0, 0)) := heap_alloc2_last w _ _
  have k1 : Kept w.heap.size w.heap.size w ((w.alloc (.cells kc 39)).alloc (.cells mc 39)) := ((Kept.refl _ _ _).alloc (Nat.le_refl _) _).alloc (by simp) _
  generalize (w.alloc (.cells kc 39)).alloc (.cells mc 39) = w1 at hP hM k1 ⊢
  obtain ⟨wa, hwa⟩ : ∃ wa, wa = w.heap.size := ⟨_, rfl⟩
  rw [← hwa] at hP hM ⊢
  have R1 := Lib.hid hP
  have R2 := Lib.hid hM
  have HK1 := Lib.hid k1
  clear hwa k1 hP hM
  by_cases hz : 3000 < s.size
  · have hd : decide ((3000 : Int) < (s.size : Int)) = true := decide_eq_true (by omega)
    go_wp2_with fail
    refine (HAW.out _).mono ?_
    rintro e w2 ⟨rfl, k2⟩
    go_wp2
    go_ret
    exact ⟨rfl, HK1.out.trans (k2.mono HK1.out.size (fun i hi _ => by have := HK1.out.size; omega))⟩
  have hd : decide ((3000 : Int) < (s.size : Int)) = false := decide_eq_false (by omega)
  have C1' := Lib.hid (C1.out (by omega))
  have C2' := Lib.hid (C2.out (by omega))
  have C3' := Lib.hid (C3.out (by omega))
  clear C1 C2 C3 hz
  go_upto_region 3 with fail
  refine wp_region_lit ?_
  refine wpList_load_row_g ?hwa0 39 _ rfl (wa) rfl 39 kc (0, 0) _ (R1.out) Try.underlying39 rfl HKI.out ?_
  case hwa0 => kernel_rfl
  simp only [Act.put, List.setIfInBounds_toArray, List.set_cons_zero, List.set_cons_succ]
  refine @BigFrame.wpList_want _ _ _ _ _ _ _ ?hwa1 ?_
  case hwa1 => kernel_rfl
  intro K hK
  go_simp
  refine hK _ _ ?_
  clear hK K
  refine @BigFrame.wpList_want _ _ _ _ _ _ _ ?hwa2 ?_
  case hwa2 => kernel_rfl
  intro K hK
  go_simp
  go_at_call 39; refine (C1'.out _).mono ?_; rintro e w3 ⟨rfl, k3⟩
  refine hK _ _ ?_
  clear hK K
  refine wpList_alloc_k rfl 39 rfl (alloc_zero _) ?_
  simp only [Act.put, List.setIfInBounds_toArray, List.set_cons_zero, List.set_cons_succ]
  refine wpList_store_row rfl 39 _ _ rfl (w3.heap.size) cu rfl rfl 39 zeros32 (heap_new _ _) HIU.out HZU.out HAU.out ?_
  simp only [Act.put]
  have K4 : Kept w1.heap.size w1.heap.size w1 (w3.alloc (.cells zeros32 39)) := k3.alloc k3.size _
  have K5 : Kept w1.heap.size w1.heap.size w1 ((w3.alloc (.cells zeros32 39)).setRow w3.heap.size cu) := Kept.ofBelow (below_setRow (K4.below (Nat.le_refl _) (Nat.le_refl _)) k3.size cu) (Nat.le_refl _)
  have r5 := setRow_heap (w3.alloc (.cells zeros32 39)) w3.heap.size zeros32 cu _ _ (heap_new _ _)
  have q5 := (K5.block _ (lt_of_block R1.out) (Nat.ne_of_lt (lt_of_block R1.out))).trans R1.out
  have m5 := (K5.block _ (lt_of_block R2.out) (Nat.ne_of_lt (lt_of_block R2.out))).trans R2.out
  generalize (w3.alloc (.cells zeros32 39)).setRow w3.heap.size cu = w5 at K5 r5 q5 m5 ⊢
  generalize w3.heap.size = wm at r5 ⊢
  have hld : ∀ w', Kept w5.heap.size w5.heap.size w5 w' → (loadVar 39 ⟨wa, 0, none⟩).run Try.prog w' = .ok (.agg kc) w' ∧ (loadVar 39 ⟨wa + 1, 0, none⟩).run Try.prog w' = .ok (.agg mc) w' ∧ (loadVar 39 ⟨wm, 0, none⟩).run Try.prog w' = .ok (.agg cu) w' := fun w' kk =>
    ⟨run_loadVar_row w' wa 39 39 kc (0, 0) _ ((kk.block _ (lt_of_block q5) (Nat.ne_of_lt (lt_of_block q5))).trans q5) Try.underlying39 rfl HKI.out, run_loadVar_row w' (wa + 1) 39 39 mc (0, 0) _ ((kk.block _ (lt_of_block m5) (Nat.ne_of_lt (lt_of_block m5))).trans m5) Try.underlying39 rfl HMI.out, run_loadVar_row w' wm 39 39 cu (0, 0) _ ((kk.block _ (lt_of_block r5) (Nat.ne_of_lt (lt_of_block r5))).trans r5) Try.underlying39 rfl HIU.out⟩
  have HLD := Lib.hid hld
  have HK5 := Lib.hid (HK1.out.trans (K5.mono HK1.out.size (fun i hi _ => by have := HK1.out.size; omega)))
  have KD : Kept w5.heap.size w5.heap.size w5 w5.drew := (Kept.refl _ _ _).drew
  clear hld r5 q5 m5 K4 K5 k3
  go_upto_region 4 with fail
  refine wp_region_noPanic ?_
  refine wp_region_held_drew (S := fun w' => Kept w5.heap.size w5.heap.size w5 w') (by kernel_rfl) (KD) (fun hH => ?_)
  refine wpAnyH_ready (rs := [0]) (by kernel_rfl) (by simp) ?_
  refine AllReadyH.cons rfl (fun K hK => ?_) AllReadyH.nil
  rw [if_pos (by rfl)]
  go_simp
  go_wp2_with (go_at_call 31; refine (HAW.out _).mono ?_; rintro e w6 ⟨rfl, kw6⟩)
  have Kw6 : Kept w5.heap.size w5.heap.size w5 w6 := KD.trans (kw6.mono KD.size (fun i hi _ => Nat.ne_of_lt (Nat.lt_of_lt_of_le hi KD.size)))
  refine hK.out _ _ (Kw6) (fun hH => ?_)
  clear hK K
  refine wpAnyH_take_at (i := 1) 16 (.bool true) rfl rfl (by kernel_rfl) (by kernel_rfl) (by kernel_rfl) (fun _ _ _ h => h) (.inl ⟨by kernel_rfl, fun w9 _ => by go_simp⟩) hH ?_
  simp only [List.setIfInBounds_toArray, List.set_cons_zero, List.set_cons_succ]
  refine wpAnyH_take_at (i := 2) 17 (.agg kc) rfl rfl (by kernel_rfl) (by kernel_rfl) (by kernel_rfl) (fun _ _ _ h => h) (yieldsIf_load_known (by kernel_rfl) 39 _ rfl (wa) (0) rfl (.agg kc) (fun w' hw' => (HLD.out w' hw').1)) hH ?_
  simp only [List.setIfInBounds_toArray, List.set_cons_zero, List.set_cons_succ]
  refine wpAnyH_take_at (i := 3) 18 (.string s) rfl rfl (by kernel_rfl) (by kernel_rfl) (by kernel_rfl) (fun _ _ _ h => h) (.inl ⟨by kernel_rfl, fun w9 _ => by go_simp⟩) hH ?_
  simp only [List.setIfInBounds_toArray, List.set_cons_zero, List.set_cons_succ]
  refine wpAnyH_take_at (i := 4) 19 (.agg mc) rfl rfl (by kernel_rfl) (by kernel_rfl) (by kernel_rfl) (fun _ _ _ h => h) (yieldsIf_load_known (by kernel_rfl) 39 _ rfl (wa + 1) (0) rfl (.agg mc) (fun w' hw' => (HLD.out w' hw').2.1)) hH ?_
  simp only [List.setIfInBounds_toArray, List.set_cons_zero, List.set_cons_succ]
  refine wpAnyH_take_at (i := 6) 21 (.agg mc) rfl rfl (by kernel_rfl) (by kernel_rfl) (by kernel_rfl) (fun _ _ _ h => h) (yieldsIf_load_known (by kernel_rfl) 39 _ rfl (wa + 1) (0) rfl (.agg mc) (fun w' hw' => (HLD.out w' hw').2.1)) hH ?_
  simp only [List.setIfInBounds_toArray, List.set_cons_zero, List.set_cons_succ]
  refine wpAnyH_take_at (i := 7) 22 (.agg cu) rfl rfl (by kernel_rfl) (by kernel_rfl) (by kernel_rfl) (fun _ _ _ h => h) (yieldsIf_load_known (by kernel_rfl) 39 _ rfl (wm) (0) rfl (.agg cu) (fun w' hw' => (HLD.out w' hw').2.2)) hH ?_
  simp only [List.setIfInBounds_toArray, List.set_cons_zero, List.set_cons_succ]
  refine wpAnyH_take_at (i := 8) 23 (.bool q) rfl rfl (by kernel_rfl) (by kernel_rfl) (by kernel_rfl) (fun _ _ _ h => h) (.inl ⟨by kernel_rfl, fun w9 _ => by go_simp⟩) hH ?_
  simp only [List.setIfInBounds_toArray, List.set_cons_zero, List.set_cons_succ]
  refine wpAnyH_ready (rs := [5]) (by kernel_rfl) (by simp) ?_
  refine AllReadyH.cons rfl (fun K hK => ?_) AllReadyH.nil
  rw [if_pos (by rfl)]
  go_simp
  go_wp2_with (go_at_call 40; refine (C2'.out _).mono ?_; rintro e w7 ⟨rfl, kw7⟩)
  have Kw7 : Kept w5.heap.size w5.heap.size w5 w7 := Kw6.trans (kw7.mono Kw6.size (fun i hi _ => Nat.ne_of_lt (Nat.lt_of_lt_of_le hi Kw6.size)))
  refine hK.out _ _ (Kw7) (fun hH => ?_)
  clear hK K
  refine wpAnyH_take_at (i := 9) 24 (.bool true) rfl rfl (by kernel_rfl) (by kernel_rfl) (by kernel_rfl) (fun _ _ _ h => h) (.inl ⟨by kernel_rfl, fun w9 _ => by go_simp⟩) hH ?_
  simp only [List.setIfInBounds_toArray, List.set_cons_zero, List.set_cons_succ]
  refine wpAnyH_take_at (i := 10) 25 (.bool true) rfl rfl (by kernel_rfl) (by kernel_rfl) (by kernel_rfl) (fun _ _ _ h => h) (.inl ⟨by kernel_rfl, fun w9 _ => by go_simp⟩) hH ?_
  simp only [List.setIfInBounds_toArray, List.set_cons_zero, List.set_cons_succ]
  refine wpAnyH_take_at (i := 11) 26 (.bool true) rfl rfl (by kernel_rfl) (by kernel_rfl) (by kernel_rfl) (fun _ _ _ h => h) (.inl ⟨by kernel_rfl, fun w9 _ => by go_simp⟩) hH ?_
  simp only [List.setIfInBounds_toArray, List.set_cons_zero, List.set_cons_succ]
  refine wpAnyH_take_at (i := 12) 27 (.agg kc) rfl rfl (by kernel_rfl) (by kernel_rfl) (by kernel_rfl) (fun _ _ _ h => h) (yieldsIf_load_known (by kernel_rfl) 39 _ rfl (wa) (0) rfl (.agg kc) (fun w' hw' => (HLD.out w' hw').1)) hH ?_
  simp only [List.setIfInBounds_toArray, List.set_cons_zero, List.set_cons_succ]
  refine wpAnyH_take_at (i := 13) 28 (.string s) rfl rfl (by kernel_rfl) (by kernel_rfl) (by kernel_rfl) (fun _ _ _ h => h) (.inl ⟨by kernel_rfl, fun w9 _ => by go_simp⟩) hH ?_
  simp only [List.setIfInBounds_toArray, List.set_cons_zero, List.set_cons_succ]
  refine wpAnyH_take_at (i := 14) 29 (.agg cu) rfl rfl (by kernel_rfl) (by kernel_rfl) (by kernel_rfl) (fun _ _ _ h => h) (yieldsIf_load_known (by kernel_rfl) 39 _ rfl (wm) (0) rfl (.agg cu) (fun w' hw' => (HLD.out w' hw').2.2)) hH ?_
  simp only [List.setIfInBounds_toArray, List.set_cons_zero, List.set_cons_succ]
  refine wpAnyH_ready (rs := [15]) (by kernel_rfl) (by simp) ?_
  refine AllReadyH.cons rfl (fun K hK => ?_) AllReadyH.nil
  rw [if_pos (by rfl)]
  go_simp
  go_wp2_with (go_at_call 40; refine (C3'.out _).mono ?_; rintro e w8 ⟨rfl, kw8⟩)
  have Kw8 : Kept w5.heap.size w5.heap.size w5 w8 := Kw7.trans (kw8.mono Kw7.size (fun i hi _ => Nat.ne_of_lt (Nat.lt_of_lt_of_le hi Kw7.size)))
  refine hK.out _ _ (Kw8) (fun hH => ?_)
  clear hK K
  refine wpAnyH_take_at (i := 16) 31 (.bool true) rfl rfl (by kernel_rfl) (by kernel_rfl) (by kernel_rfl) (fun _ _ _ h => h) (.inl ⟨by kernel_rfl, fun w9 _ => by go_simp⟩) hH ?_
  simp only [List.setIfInBounds_toArray, List.set_cons_zero, List.set_cons_succ]
  refine wpAnyH_take_at (i := 17) 6 (.bool true) rfl rfl (by kernel_rfl) (by kernel_rfl) (by kernel_rfl) (fun _ _ _ h => h) (.inl ⟨by kernel_rfl, fun w9 _ => by go_simp⟩) hH ?_
  simp only [List.setIfInBounds_toArray, List.set_cons_zero, List.set_cons_succ]
  refine wpAnyH_done (by kernel_rfl) ?_ _
  refine NoPanic.normal ?_
  go_wp2
  go_ret
  exact ⟨rfl, HK5.out.trans (Kw8.mono HK5.out.size (fun i hi _ => by have := HK5.out.size; omega))⟩

end Go.Proofs.Ytmcnmcnmcpfmiaa
