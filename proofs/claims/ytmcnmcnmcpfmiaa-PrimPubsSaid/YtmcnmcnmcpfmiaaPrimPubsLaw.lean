/-
  The walk of the statement PrimPubs: public keys, marks and check keys are the document's.
-/
import Derived.Test.YtmcnmcnmcpfmiaaGN

namespace Go.Proofs.Ytmcnmcnmcpfmiaa
open Go.RowKit Go.Lib

set_option maxRecDepth 100000 in
set_option maxHeartbeats 3200000 in
theorem primpubs_walk (l : List UInt8) (hl : l.length = 32) (w : World) : Calls Try.prog 14 #[.agg (bcells l).toArray] w fun e w' => e = .returned (.bool true) ∧ Kept w.heap.size w.heap.size w w' := by
  have c1 := fun w => pub_nil l (Lib.hid hl) w
  have c2 := fun w => refpub_calls l (Lib.hid hl) w
  have c3 := fun w => mark_calls l (Lib.hid hl) w
  have c4 := fun w => refmark_calls l (Lib.hid hl) w
  have c5 := fun w => verify_calls l (Lib.hid hl) w
  have c6 := fun w => refver_calls l (Lib.hid hl) w
  have heq1 := fun w => mac_equalIn w (Pm.pub l) (Pm.pub_length l)
  have heq2 := fun w => mac_equalIn w (Pm.mark l) (Pm.mark_length l)
  have heq3 := fun w => mac_equalIn w (Pm.ver l) (Pm.ver_length l)
  have gd := macGuard25
  have hki := keyInfo hl
  generalize (bcells (Pm.pub l)).toArray = cp at c1 c2 heq1
  generalize (bcells (Pm.mark l)).toArray = cm at c3 c4 heq2
  generalize (bcells (Pm.ver l)).toArray = cv at c5 c6 heq3
  generalize (bcells l).toArray = kc at c1 c2 c3 c4 c5 c6 hki ⊢
  have haw := fun w => prim_awake w
  have HAW := Lib.hid haw
  have C1 := Lib.hid c1
  have C2 := Lib.hid c2
  have C3 := Lib.hid c3
  have C4 := Lib.hid c4
  have C5 := Lib.hid c5
  have C6 := Lib.hid c6
  have HKI := Lib.hid hki
  clear c1 c2 c3 c4 c5 c6 hki haw
  go_enter Try.func14, Try.ntmps14
  go_upto_region 1 with fail
  have hP : (w.alloc (.cells kc 39)).heap[w.heap.size]? = some (.cells kc 39 (0, 0)) := heap_new _ _
  have k1 : Kept w.heap.size w.heap.size w (w.alloc (.cells kc 39)) := (Kept.refl _ _ _).alloc (Nat.le_refl _) _
  generalize w.alloc (.cells kc 39) = w5 at hP k1 ⊢
  obtain ⟨wa, hwa⟩ : ∃ wa, wa = w.heap.size := ⟨_, rfl⟩
  rw [← hwa] at hP ⊢
  have hld : ∀ w', Kept w5.heap.size w5.heap.size w5 w' → (loadVar 39 ⟨wa, 0, none⟩).run Try.prog w' = .ok (.agg kc) w' := fun w' kk => run_loadVar_row w' wa 39 39 kc (0, 0) _ ((kk.block _ (lt_of_block hP) (Nat.ne_of_lt (lt_of_block hP))).trans hP) Try.underlying39 rfl HKI.out
  have HLD := Lib.hid hld
  have HK1 := Lib.hid k1
  clear hwa hld k1 hP
  have KD : Kept w5.heap.size w5.heap.size w5 w5.drew := (Kept.refl _ _ _).drew
  refine wp_region_noPanic ?_
  refine wp_region_held_drew (S := fun w' => Kept w5.heap.size w5.heap.size w5 w') (by kernel_rfl) (KD) (fun hH => ?_)
  refine wpAnyH_ready (rs := [0]) (by kernel_rfl) (by simp) ?_
  refine AllReadyH.cons rfl (fun K hK => ?_) AllReadyH.nil
  rw [if_pos (by rfl)]
  go_simp
  go_wp2_with (go_at_call 31; refine (HAW.out _).mono ?_; rintro e w6 ⟨rfl, kw6⟩)
  have Kw6 : Kept w5.heap.size w5.heap.size w5 w6 := KD.trans (kw6.mono KD.size (fun i hi _ => Nat.ne_of_lt (Nat.lt_of_lt_of_le hi KD.size)))
  refine hK.out _ _ (Kw6) (fun hH => ?_)
  clear hK K
  refine wpAnyH_take_at (i := 1) 4 (.bool true) rfl rfl (by kernel_rfl) (by kernel_rfl) (by kernel_rfl) (fun _ _ _ h => h) (.inl ⟨by kernel_rfl, fun w9 _ => by go_simp⟩) hH ?_
  simp only [List.setIfInBounds_toArray, List.set_cons_zero, List.set_cons_succ]
  refine wpAnyH_take_at (i := 2) 5 (.agg kc) rfl rfl (by kernel_rfl) (by kernel_rfl) (by kernel_rfl) (fun _ _ _ h => h) (yieldsIf_load_known (by kernel_rfl) 39 _ rfl (wa) (0) rfl (.agg kc) (fun w' hw' => HLD.out w' hw')) hH ?_
  simp only [List.setIfInBounds_toArray, List.set_cons_zero, List.set_cons_succ]
  refine wpAnyH_take_at (i := 4) 7 (.agg kc) rfl rfl (by kernel_rfl) (by kernel_rfl) (by kernel_rfl) (fun _ _ _ h => h) (yieldsIf_load_known (by kernel_rfl) 39 _ rfl (wa) (0) rfl (.agg kc) (fun w' hw' => HLD.out w' hw')) hH ?_
  simp only [List.setIfInBounds_toArray, List.set_cons_zero, List.set_cons_succ]
  refine wpAnyH_ready (rs := [3]) (by kernel_rfl) (by simp) ?_
  refine AllReadyH.cons rfl (fun K hK => ?_) AllReadyH.nil
  rw [if_pos (by rfl)]
  go_simp
  go_wp2_with (go_at_call 33; refine (C1.out _).mono ?_; rintro e w7 ⟨rfl, kw7⟩)
  have Kw7 : Kept w5.heap.size w5.heap.size w5 w7 := Kw6.trans (kw7.mono Kw6.size (fun i hi _ => Nat.ne_of_lt (Nat.lt_of_lt_of_le hi Kw6.size)))
  refine hK.out _ _ (Kw7) (fun hH => ?_)
  clear hK K
  refine wpAnyH_ready (rs := [5]) (by kernel_rfl) (by simp) ?_
  refine AllReadyH.cons rfl (fun K hK => ?_) AllReadyH.nil
  rw [if_pos (by rfl)]
  go_simp
  go_wp2_with (go_at_call 34; refine (C2.out _).mono ?_; rintro e w8 ⟨rfl, kw8⟩)
  have Kw8 : Kept w5.heap.size w5.heap.size w5 w8 := Kw7.trans (kw8.mono Kw7.size (fun i hi _ => Nat.ne_of_lt (Nat.lt_of_lt_of_le hi Kw7.size)))
  refine hK.out _ _ (Kw8) (fun hH => ?_)
  clear hK K
  refine wpAnyH_take_at (i := 6) 9 (.bool true) rfl rfl (by kernel_rfl) (by kernel_rfl) (by kernel_rfl) (fun _ _ _ h => h) (.inl ⟨by kernel_rfl, fun w9 _ => by go_simp⟩) hH ?_
  simp only [List.setIfInBounds_toArray, List.set_cons_zero, List.set_cons_succ]
  refine wpAnyH_take_at (i := 7) 10 (.bool true) rfl rfl (by kernel_rfl) (by kernel_rfl) (by kernel_rfl) (fun _ _ _ h => h) (.inl ⟨by kernel_rfl, fun w9 _ => by go_simp⟩) hH ?_
  simp only [List.setIfInBounds_toArray, List.set_cons_zero, List.set_cons_succ]
  refine wpAnyH_take_at (i := 8) 11 (.bool true) rfl rfl (by kernel_rfl) (by kernel_rfl) (by kernel_rfl) (fun _ _ _ h => h) (.inl ⟨by kernel_rfl, fun w9 _ => by go_simp⟩) hH ?_
  simp only [List.setIfInBounds_toArray, List.set_cons_zero, List.set_cons_succ]
  refine wpAnyH_take_at (i := 9) 12 (.agg kc) rfl rfl (by kernel_rfl) (by kernel_rfl) (by kernel_rfl) (fun _ _ _ h => h) (yieldsIf_load_known (by kernel_rfl) 39 _ rfl (wa) (0) rfl (.agg kc) (fun w' hw' => HLD.out w' hw')) hH ?_
  simp only [List.setIfInBounds_toArray, List.set_cons_zero, List.set_cons_succ]
  refine wpAnyH_take_at (i := 11) 14 (.agg kc) rfl rfl (by kernel_rfl) (by kernel_rfl) (by kernel_rfl) (fun _ _ _ h => h) (yieldsIf_load_known (by kernel_rfl) 39 _ rfl (wa) (0) rfl (.agg kc) (fun w' hw' => HLD.out w' hw')) hH ?_
  simp only [List.setIfInBounds_toArray, List.set_cons_zero, List.set_cons_succ]
  refine wpAnyH_ready (rs := [10]) (by kernel_rfl) (by simp) ?_
  refine AllReadyH.cons rfl (fun K hK => ?_) AllReadyH.nil
  rw [if_pos (by rfl)]
  go_simp
  go_wp2_with (go_at_call 35; refine (C3.out _).mono ?_; rintro e w9 ⟨rfl, kw9⟩)
  have Kw9 : Kept w5.heap.size w5.heap.size w5 w9 := Kw8.trans (kw9.mono Kw8.size (fun i hi _ => Nat.ne_of_lt (Nat.lt_of_lt_of_le hi Kw8.size)))
  refine hK.out _ _ (Kw9) (fun hH => ?_)
  clear hK K
  refine wpAnyH_ready (rs := [12]) (by kernel_rfl) (by simp) ?_
  refine AllReadyH.cons rfl (fun K hK => ?_) AllReadyH.nil
  rw [if_pos (by rfl)]
  go_simp
  go_wp2_with (go_at_call 36; refine (C4.out _).mono ?_; rintro e w10 ⟨rfl, kw10⟩)
  have Kw10 : Kept w5.heap.size w5.heap.size w5 w10 := Kw9.trans (kw10.mono Kw9.size (fun i hi _ => Nat.ne_of_lt (Nat.lt_of_lt_of_le hi Kw9.size)))
  refine hK.out _ _ (Kw10) (fun hH => ?_)
  clear hK K
  refine wpAnyH_take_at (i := 13) 16 (.bool true) rfl rfl (by kernel_rfl) (by kernel_rfl) (by kernel_rfl) (fun _ _ _ h => h) (.inl ⟨by kernel_rfl, fun w9 _ => by go_simp⟩) hH ?_
  simp only [List.setIfInBounds_toArray, List.set_cons_zero, List.set_cons_succ]
  refine wpAnyH_take_at (i := 14) 17 (.bool true) rfl rfl (by kernel_rfl) (by kernel_rfl) (by kernel_rfl) (fun _ _ _ h => h) (.inl ⟨by kernel_rfl, fun w9 _ => by go_simp⟩) hH ?_
  simp only [List.setIfInBounds_toArray, List.set_cons_zero, List.set_cons_succ]
  refine wpAnyH_take_at (i := 15) 18 (.bool true) rfl rfl (by kernel_rfl) (by kernel_rfl) (by kernel_rfl) (fun _ _ _ h => h) (.inl ⟨by kernel_rfl, fun w9 _ => by go_simp⟩) hH ?_
  simp only [List.setIfInBounds_toArray, List.set_cons_zero, List.set_cons_succ]
  refine wpAnyH_take_at (i := 16) 19 (.agg kc) rfl rfl (by kernel_rfl) (by kernel_rfl) (by kernel_rfl) (fun _ _ _ h => h) (yieldsIf_load_known (by kernel_rfl) 39 _ rfl (wa) (0) rfl (.agg kc) (fun w' hw' => HLD.out w' hw')) hH ?_
  simp only [List.setIfInBounds_toArray, List.set_cons_zero, List.set_cons_succ]
  refine wpAnyH_take_at (i := 18) 21 (.agg kc) rfl rfl (by kernel_rfl) (by kernel_rfl) (by kernel_rfl) (fun _ _ _ h => h) (yieldsIf_load_known (by kernel_rfl) 39 _ rfl (wa) (0) rfl (.agg kc) (fun w' hw' => HLD.out w' hw')) hH ?_
  simp only [List.setIfInBounds_toArray, List.set_cons_zero, List.set_cons_succ]
  refine wpAnyH_ready (rs := [17]) (by kernel_rfl) (by simp) ?_
  refine AllReadyH.cons rfl (fun K hK => ?_) AllReadyH.nil
  rw [if_pos (by rfl)]
  go_simp
  go_wp2_with (go_at_call 37; refine (C5.out _).mono ?_; rintro e w11 ⟨rfl, kw11⟩)
  have Kw11 : Kept w5.heap.size w5.heap.size w5 w11 := Kw10.trans (kw11.mono Kw10.size (fun i hi _ => Nat.ne_of_lt (Nat.lt_of_lt_of_le hi Kw10.size)))
  refine hK.out _ _ (Kw11) (fun hH => ?_)
  clear hK K
  refine wpAnyH_ready (rs := [19]) (by kernel_rfl) (by simp) ?_
  refine AllReadyH.cons rfl (fun K hK => ?_) AllReadyH.nil
  rw [if_pos (by rfl)]
  go_simp
  go_wp2_with (go_at_call 32; refine (C6.out _).mono ?_; rintro e w12 ⟨rfl, kw12⟩)
  have Kw12 : Kept w5.heap.size w5.heap.size w5 w12 := Kw11.trans (kw12.mono Kw11.size (fun i hi _ => Nat.ne_of_lt (Nat.lt_of_lt_of_le hi Kw11.size)))
  refine hK.out _ _ (Kw12) (fun hH => ?_)
  clear hK K
  refine wpAnyH_take_at (i := 20) 23 (.bool true) rfl rfl (by kernel_rfl) (by kernel_rfl) (by kernel_rfl) (fun _ _ _ h => h) (.inl ⟨by kernel_rfl, fun w9 _ => by go_simp⟩) hH ?_
  simp only [List.setIfInBounds_toArray, List.set_cons_zero, List.set_cons_succ]
  refine wpAnyH_take_at (i := 21) 24 (.bool true) rfl rfl (by kernel_rfl) (by kernel_rfl) (by kernel_rfl) (fun _ _ _ h => h) (.inl ⟨by kernel_rfl, fun w9 _ => by go_simp⟩) hH ?_
  simp only [List.setIfInBounds_toArray, List.set_cons_zero, List.set_cons_succ]
  refine wpAnyH_take_at (i := 22) 2 (.bool true) rfl rfl (by kernel_rfl) (by kernel_rfl) (by kernel_rfl) (fun _ _ _ h => h) (.inl ⟨by kernel_rfl, fun w9 _ => by go_simp⟩) hH ?_
  simp only [List.setIfInBounds_toArray, List.set_cons_zero, List.set_cons_succ]
  refine wpAnyH_done (by kernel_rfl) ?_ _
  refine NoPanic.normal ?_
  go_wp2
  go_ret
  exact ⟨rfl, HK1.out.trans (Kw12.mono HK1.out.size (fun i hi _ => by have := HK1.out.size; omega))⟩

end Go.Proofs.Ytmcnmcnmcpfmiaa
