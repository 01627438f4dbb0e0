/-
  The walk of the statement PrimKeys: public keys, marks, check keys, signatures and keys of keys are the document's.
-/
import Derived.Test.YtdedookpdnbdiaaGN
import Derived.Test.YtdedookpdnbdiaaGM

namespace Go.Proofs.Ytdedookpdnbdiaa
open Go.RowKit Go.Lib

set_option maxRecDepth 100000 in
set_option maxHeartbeats 3200000 in
theorem primkeys_walk (a b c : List UInt8) (ha : a.length = 32) (hb : b.length = 32) (hc : c.length = 32) (s t : ByteArray) (w : World) : Calls Try.prog 4 #[.agg (bcells a).toArray, .agg (bcells b).toArray, .agg (bcells c).toArray, .string s, .string t] w fun e w' => e = .returned (.bool true) ∧ Kept w.heap.size w.heap.size w w' := by
  have c1 := fun w => pub_nil a (Lib.hid ha) w
  have c2 := fun w => refpub_calls a (Lib.hid ha) w
  have c3 := fun w => mark_calls a (Lib.hid ha) w
  have c4 := fun w => refmark_calls a (Lib.hid ha) w
  have c5 := fun w => verify_calls a (Lib.hid ha) w
  have c6 := fun w => refver_calls a (Lib.hid ha) w
  have c7 := fun ht w => sign_calls a (Lib.hid ha) t ht w
  have c8 := fun ht w => refsign_calls (Pm.ver a) (Lib.hid (Pm.ver_length _)) t ht w
  have c9 := fun ht w => check_calls (Pm.ver a) (Pm.sign (Pm.ver a) t.data.toList) (Lib.hid (Pm.ver_length _)) (Lib.hid (Pm.sign_length _ _)) t ht w
  have c10 := fun ht w => check_calls b c (Lib.hid hb) (Lib.hid hc) t ht w
  have c11 := fun ht w => refsign_calls b (Lib.hid hb) t ht w
  have c12 := fun h1 h2 w => pderive_nil a (Lib.hid ha) s t h1 h2 w
  have c13 := fun h1 h2 w => derive_calls a (Lib.hid ha) s t h1 h2 w
  have c14 := fun w => pmix_nil a b (Lib.hid ha) (Lib.hid hb) w
  have c15 := fun w => macmix_calls a b (Lib.hid ha) (Lib.hid hb) w
  have heq1 := fun w => mac_equalIn w (Pm.pub a) (Pm.pub_length a)
  have heq2 := fun w => mac_equalIn w (Pm.mark a) (Pm.mark_length a)
  have heq3 := fun w => mac_equalIn w (Pm.ver a) (Pm.ver_length a)
  have heq4 := fun w => mac_equalIn w (Pm.sign (Pm.ver a) t.data.toList) (Pm.sign_length _ _)
  have heq5 := fun w => hash_equalIn w c (Pm.sign b t.data.toList) hc (Pm.sign_length _ _)
  have heq6 := fun w => mac_equalIn w (Mc.derive a s.data.toList t.data.toList) (Mc.derive_length _ _ _)
  have heq7 := fun w => mac_equalIn w (Mc.code a b) (Mc.code_length _ _)
  have gd := macGuard25
  have hai := keyInfo ha
  have hbi := keyInfo hb
  have hci := keyInfo hc
  have hiv := keyInfoP (Pm.ver_length a)
  have hzv := keySize (Pm.ver_length a)
  have hav := bcells_all (Pm.ver a)
  simp only [beq_self_eq_true] at c9
  generalize (c == Pm.sign b t.data.toList) = q at c10 heq5
  generalize (bcells (Mc.derive a s.data.toList t.data.toList)).toArray = cdr at c12 c13 heq6
  generalize (bcells (Mc.code a b)).toArray = cmx at c14 c15 heq7
  generalize (bcells (Pm.sign b t.data.toList)).toArray = csb at c11 heq5
  generalize (bcells (Pm.sign (Pm.ver a) t.data.toList)).toArray = csa at c7 c8 c9 heq4
  generalize (bcells (Pm.pub a)).toArray = cpu at c1 c2 heq1
  generalize (bcells (Pm.mark a)).toArray = cmk at c3 c4 heq2
  generalize (bcells (Pm.ver a)).toArray = cvr at c5 c6 c8 c9 heq3 hiv hzv hav
  generalize (bcells a).toArray = ka at c1 c2 c3 c4 c5 c6 c7 c12 c13 c14 c15 hai ⊢
  generalize (bcells b).toArray = kb at c10 c11 c14 c15 hbi ⊢
  generalize (bcells c).toArray = kc at c10 heq5 hci ⊢
  have haw := fun w => prim_awake w
  have HAW := Lib.hid haw
  have C1 := Lib.hid c1
  have C2 := Lib.hid c2
  have C3 := Lib.hid c3
  have C4 := Lib.hid c4
  have C5 := Lib.hid c5
  have C6 := Lib.hid c6
  have C7 := Lib.hid c7
  have C8 := Lib.hid c8
  have C9 := Lib.hid c9
  have C10 := Lib.hid c10
  have C11 := Lib.hid c11
  have C12 := Lib.hid c12
  have C13 := Lib.hid c13
  have C14 := Lib.hid c14
  have C15 := Lib.hid c15
  have HAI := Lib.hid hai
  have HBI := Lib.hid hbi
  have HCI := Lib.hid hci
  have HIU := Lib.hid hiv
  have HZU := Lib.hid hzv
  have HAU := Lib.hid hav
  clear c1 c2 c3 c4 c5 c6 c7 c8 c9 c10 c11 c12 c13 c14 c15 hai hbi hci hiv hzv hav haw
  go_enter Try.func4, Try.ntmps4
  go_upto_region 1 with fail
  have hA : (((w.alloc (.cells ka 34)).alloc (.cells kb 34)).alloc (.cells kc 34)).heap[w.heap.size]? = some (.cells ka 34 (0, 0)) := heap_alloc3_old w _ _ _
  have hB : (((w.alloc (.cells ka 34)).alloc (.cells kb 34)).alloc (.cells kc 34)).heap[w.heap.size + 1]? = some (.cells kb 34 (0, 0)) := heap_alloc3_mid w _ _ _
  have hC : (((w.alloc (.cells ka 34)).alloc (.cells kb 34)).alloc (.cells kc 34)).heap[w.heap.size + 1 + 1]? = some (.cells kc 34 (0, 0)) := heap_alloc3_last w _ _ _
  have k1 : Kept w.heap.size w.heap.size w (((w.alloc (.cells ka 34)).alloc (.cells kb 34)).alloc (.cells kc 34)) := (((Kept.refl _ _ _).alloc (Nat.le_refl _) _).alloc (by simp) _).alloc (by simp; omega) _
  generalize ((w.alloc (.cells ka 34)).alloc (.cells kb 34)).alloc (.cells kc 34) = w1 at hA hB hC k1 ⊢
  obtain ⟨wa, hwa⟩ : ∃ wa, wa = w.heap.size := ⟨_, rfl⟩
  rw [← hwa] at hA hB hC ⊢
  have R1 := Lib.hid hA
  have R2 := Lib.hid hB
  have R3 := Lib.hid hC
  have HK1 := Lib.hid k1
  clear hwa k1 hA hB hC
  refine wp_region_lit ?_
  refine @BigFrame.wpList_want _ _ _ _ _ _ _ ?hwa0 ?_
  case hwa0 => kernel_rfl
  intro K hK
  go_simp
  go_at_call 20; refine (HAW.out _).mono ?_; rintro e w2 ⟨rfl, k2⟩
  refine hK _ _ ?_
  clear hK K
  refine @BigFrame.wpList_want _ _ _ _ _ _ _ ?hwb00 ?_
  case hwb00 => kernel_rfl
  intro K hK
  go_simp
  refine hK _ _ ?_
  clear hK K
  refine @BigFrame.wpList_want _ _ _ _ _ _ _ ?hwb01 ?_
  case hwb01 => kernel_rfl
  intro K hK
  go_simp
  refine hK _ _ ?_
  clear hK K
  refine @BigFrame.wpList_want _ _ _ _ _ _ _ ?hwb02 ?_
  case hwb02 => kernel_rfl
  intro K hK
  go_simp
  refine hK _ _ ?_
  clear hK K
  refine @BigFrame.wpList_want _ _ _ _ _ _ _ ?hwb03 ?_
  case hwb03 => kernel_rfl
  intro K hK
  go_simp
  refine hK _ _ ?_
  clear hK K
  by_cases hz : 3000 < s.size
  · have hd : decide ((3000 : Int) < (s.size : Int)) = true := decide_eq_true (by omega)
    refine @BigFrame.wpList_want _ _ _ _ _ _ _ ?hwc0 ?_
    case hwc0 => kernel_rfl
    intro K hK
    go_simp
    refine hK _ _ ?_
    clear hK K
    refine @BigFrame.wpList_want _ _ _ _ _ _ _ ?hwc1 ?_
    case hwc1 => kernel_rfl
    intro K hK
    go_simp
    refine hK _ _ ?_
    clear hK K
    refine @BigFrame.wpList_want _ _ _ _ _ _ _ ?hwc2 ?_
    case hwc2 => kernel_rfl
    intro K hK
    go_simp
    refine hK _ _ ?_
    clear hK K
    refine @wpList_skip _ _ _ _ _ _ _ ?hwd00 ?_
    case hwd00 => kernel_rfl
    simp only [Act.put, List.setIfInBounds_toArray, List.set_cons_zero, List.set_cons_succ]
    refine @wpList_skip _ _ _ _ _ _ _ ?hwd01 ?_
    case hwd01 => kernel_rfl
    simp only [Act.put, List.setIfInBounds_toArray, List.set_cons_zero, List.set_cons_succ]
    refine @wpList_skip _ _ _ _ _ _ _ ?hwd02 ?_
    case hwd02 => kernel_rfl
    simp only [Act.put, List.setIfInBounds_toArray, List.set_cons_zero, List.set_cons_succ]
    refine @BigFrame.wpList_want _ _ _ _ _ _ _ ?hwd9 ?_
    case hwd9 => kernel_rfl
    intro K hK
    go_simp
    refine hK _ _ ?_
    clear hK K
    go_wp2_with (go_at_call 20; refine (HAW.out _).mono ?_; rintro e w3 ⟨rfl, k3⟩)
    go_ret
    exact ⟨rfl, HK1.out.trans ((k2.trans (k3.mono k2.size (fun i hi _ => Nat.ne_of_lt (Nat.lt_of_lt_of_le hi k2.size)))).mono HK1.out.size (fun i hi _ => by have := HK1.out.size; omega))⟩
  have hd : decide ((3000 : Int) < (s.size : Int)) = false := decide_eq_false (by omega)
  refine @BigFrame.wpList_want _ _ _ _ _ _ _ ?hwe00 ?_
  case hwe00 => kernel_rfl
  intro K hK
  go_simp
  refine hK _ _ ?_
  clear hK K
  refine @BigFrame.wpList_want _ _ _ _ _ _ _ ?hwe01 ?_
  case hwe01 => kernel_rfl
  intro K hK
  go_simp
  refine hK _ _ ?_
  clear hK K
  refine @BigFrame.wpList_want _ _ _ _ _ _ _ ?hwe02 ?_
  case hwe02 => kernel_rfl
  intro K hK
  go_simp
  refine hK _ _ ?_
  clear hK K
  refine @BigFrame.wpList_want _ _ _ _ _ _ _ ?hwe03 ?_
  case hwe03 => kernel_rfl
  intro K hK
  go_simp
  refine hK _ _ ?_
  clear hK K
  refine @BigFrame.wpList_want _ _ _ _ _ _ _ ?hwe04 ?_
  case hwe04 => kernel_rfl
  intro K hK
  go_simp
  refine hK _ _ ?_
  clear hK K
  by_cases hy : 3000 < t.size
  · have hd2 : decide ((3000 : Int) < (t.size : Int)) = true := decide_eq_true (by omega)
    refine @BigFrame.wpList_want _ _ _ _ _ _ _ ?hwf00 ?_
    case hwf00 => kernel_rfl
    intro K hK
    go_simp
    refine hK _ _ ?_
    clear hK K
    refine @BigFrame.wpList_want _ _ _ _ _ _ _ ?hwf01 ?_
    case hwf01 => kernel_rfl
    intro K hK
    go_simp
    refine hK _ _ ?_
    clear hK K
    go_wp2_with (go_at_call 20; refine (HAW.out _).mono ?_; rintro e w3 ⟨rfl, k3⟩)
    go_ret
    exact ⟨rfl, HK1.out.trans ((k2.trans (k3.mono k2.size (fun i hi _ => Nat.ne_of_lt (Nat.lt_of_lt_of_le hi k2.size)))).mono HK1.out.size (fun i hi _ => by have := HK1.out.size; omega))⟩
  have hd2 : decide ((3000 : Int) < (t.size : Int)) = false := decide_eq_false (by omega)
  refine @BigFrame.wpList_want _ _ _ _ _ _ _ ?hwg00 ?_
  case hwg00 => kernel_rfl
  intro K hK
  go_simp
  refine hK _ _ ?_
  clear hK K
  refine @BigFrame.wpList_want _ _ _ _ _ _ _ ?hwg01 ?_
  case hwg01 => kernel_rfl
  intro K hK
  go_simp
  refine hK _ _ ?_
  clear hK K
  have C7' := Lib.hid (C7.out (by omega))
  have C8' := Lib.hid (C8.out (by omega))
  have C9' := Lib.hid (C9.out (by omega))
  have C10' := Lib.hid (C10.out (by omega))
  have C11' := Lib.hid (C11.out (by omega))
  have C12' := Lib.hid (C12.out (Lib.hid (by omega)) (Lib.hid (by omega)))
  have C13' := Lib.hid (C13.out (Lib.hid (by omega)) (Lib.hid (by omega)))
  clear C7 C8 C9 C10 C11 C12 C13 hz hy hd hd2
  have a2 := (k2.block _ (lt_of_block R1.out) (Nat.ne_of_lt (lt_of_block R1.out))).trans R1.out
  have A2 := Lib.hid a2
  clear a2
  go_upto_region 3 with fail
  refine wp_region_lit ?_
  refine wpList_load_row_g ?hwh0 34 _ rfl (wa) rfl 34 ka (0, 0) _ (A2.out) Try.underlying34 rfl HAI.out ?_
  case hwh0 => kernel_rfl
  simp only [Act.put, List.setIfInBounds_toArray, List.set_cons_zero, List.set_cons_succ]
  refine @BigFrame.wpList_want _ _ _ _ _ _ _ ?hwh1 ?_
  case hwh1 => kernel_rfl
  intro K hK
  go_simp
  go_at_call 21; refine (C6.out _).mono ?_; rintro e w3 ⟨rfl, k3⟩
  refine hK _ _ ?_
  clear hK K
  refine wpList_alloc_k rfl 33 rfl (alloc_zeroP _) ?_
  simp only [Act.put, List.setIfInBounds_toArray, List.set_cons_zero, List.set_cons_succ]
  refine wpList_store_row rfl 33 _ _ rfl (w3.heap.size) cvr rfl rfl 33 zeros32 (heap_new _ _) HIU.out HZU.out HAU.out ?_
  simp only [Act.put]
  have k13 := k2.trans (k3.mono k2.size (fun i hi _ => Nat.ne_of_lt (Nat.lt_of_lt_of_le hi k2.size)))
  have K4 : Kept w1.heap.size w1.heap.size w1 (w3.alloc (.cells zeros32 33)) := k13.alloc k13.size _
  have K5 : Kept w1.heap.size w1.heap.size w1 ((w3.alloc (.cells zeros32 33)).setRow w3.heap.size cvr) := Kept.ofBelow (below_setRow (K4.below (Nat.le_refl _) (Nat.le_refl _)) k13.size cvr) (Nat.le_refl _)
  have r5 := setRow_heap (w3.alloc (.cells zeros32 33)) w3.heap.size zeros32 cvr _ _ (heap_new _ _)
  have q5 := (K5.block _ (lt_of_block R1.out) (Nat.ne_of_lt (lt_of_block R1.out))).trans R1.out
  have m5 := (K5.block _ (lt_of_block R2.out) (Nat.ne_of_lt (lt_of_block R2.out))).trans R2.out
  have n5 := (K5.block _ (lt_of_block R3.out) (Nat.ne_of_lt (lt_of_block R3.out))).trans R3.out
  generalize (w3.alloc (.cells zeros32 33)).setRow w3.heap.size cvr = w5 at K5 r5 q5 m5 n5 ⊢
  generalize w3.heap.size = wm at r5 ⊢
  have hld : ∀ w', Kept w5.heap.size w5.heap.size w5 w' → (loadVar 34 ⟨wa, 0, none⟩).run Try.prog w' = .ok (.agg ka) w' ∧ (loadVar 34 ⟨wa + 1, 0, none⟩).run Try.prog w' = .ok (.agg kb) w' ∧ (loadVar 34 ⟨wa + 1 + 1, 0, none⟩).run Try.prog w' = .ok (.agg kc) w' ∧ (loadVar 33 ⟨wm, 0, none⟩).run Try.prog w' = .ok (.agg cvr) w' := fun w' kk =>
    ⟨run_loadVar_row w' wa 34 34 ka (0, 0) _ ((kk.block _ (lt_of_block q5) (Nat.ne_of_lt (lt_of_block q5))).trans q5) Try.underlying34 rfl HAI.out, run_loadVar_row w' (wa + 1) 34 34 kb (0, 0) _ ((kk.block _ (lt_of_block m5) (Nat.ne_of_lt (lt_of_block m5))).trans m5) Try.underlying34 rfl HBI.out, run_loadVar_row w' (wa + 1 + 1) 34 34 kc (0, 0) _ ((kk.block _ (lt_of_block n5) (Nat.ne_of_lt (lt_of_block n5))).trans n5) Try.underlying34 rfl HCI.out, run_loadVar_row w' wm 33 33 cvr (0, 0) _ ((kk.block _ (lt_of_block r5) (Nat.ne_of_lt (lt_of_block r5))).trans r5) Try.underlying33 rfl HIU.out⟩
  have HLD := Lib.hid hld
  have HK5 := Lib.hid (HK1.out.trans (K5.mono HK1.out.size (fun i hi _ => by have := HK1.out.size; omega)))
  have KD : Kept w5.heap.size w5.heap.size w5 w5.drew := (Kept.refl _ _ _).drew
  clear hld r5 q5 m5 n5 K4 K5 k3 k13 k2 A2
  go_upto_region 4 with fail
  refine wp_region_noPanic ?_
  refine wp_region_held_drew (S := fun w' => Kept w5.heap.size w5.heap.size w5 w') (by kernel_rfl) (KD) (fun hH => ?_)
  refine wpAnyH_take_at (i := 0) 27 (.agg ka) rfl rfl (by kernel_rfl) (by kernel_rfl) (by kernel_rfl) (fun _ _ _ h => h) (yieldsIf_load_known (by kernel_rfl) 34 _ rfl (wa) (0) rfl (.agg ka) (fun w' hw' => (HLD.out w' hw').1)) hH ?_
  simp only [List.setIfInBounds_toArray, List.set_cons_zero, List.set_cons_succ]
  refine wpAnyH_take_at (i := 2) 29 (.agg ka) rfl rfl (by kernel_rfl) (by kernel_rfl) (by kernel_rfl) (fun _ _ _ h => h) (yieldsIf_load_known (by kernel_rfl) 34 _ rfl (wa) (0) rfl (.agg ka) (fun w' hw' => (HLD.out w' hw').1)) hH ?_
  simp only [List.setIfInBounds_toArray, List.set_cons_zero, List.set_cons_succ]
  refine wpAnyH_ready (rs := [1]) (by kernel_rfl) (by simp) ?_
  refine AllReadyH.cons rfl (fun K hK => ?_) AllReadyH.nil
  rw [if_pos (by rfl)]
  go_simp
  go_wp2_with (go_at_call 22; refine (C1.out _).mono ?_; rintro e v1 ⟨rfl, kv1⟩)
  have Kv1 : Kept w5.heap.size w5.heap.size w5 v1 := KD.trans (kv1.mono KD.size (fun i hi _ => Nat.ne_of_lt (Nat.lt_of_lt_of_le hi KD.size)))
  refine hK.out _ _ (Kv1) (fun hH => ?_)
  clear hK K
  refine wpAnyH_ready (rs := [3]) (by kernel_rfl) (by simp) ?_
  refine AllReadyH.cons rfl (fun K hK => ?_) AllReadyH.nil
  rw [if_pos (by rfl)]
  go_simp
  go_wp2_with (go_at_call 23; refine (C2.out _).mono ?_; rintro e v3 ⟨rfl, kv3⟩)
  have Kv3 : Kept w5.heap.size w5.heap.size w5 v3 := Kv1.trans (kv3.mono Kv1.size (fun i hi _ => Nat.ne_of_lt (Nat.lt_of_lt_of_le hi Kv1.size)))
  refine hK.out _ _ (Kv3) (fun hH => ?_)
  clear hK K
  refine wpAnyH_take_at (i := 4) 31 (.bool true) rfl rfl (by kernel_rfl) (by kernel_rfl) (by kernel_rfl) (fun _ _ _ h => h) (.inl ⟨by kernel_rfl, fun w9 _ => by go_simp⟩) hH ?_
  simp only [List.setIfInBounds_toArray, List.set_cons_zero, List.set_cons_succ]
  refine wpAnyH_take_at (i := 5) 32 (.bool true) rfl rfl (by kernel_rfl) (by kernel_rfl) (by kernel_rfl) (fun _ _ _ h => h) (.inl ⟨by kernel_rfl, fun w9 _ => by go_simp⟩) hH ?_
  simp only [List.setIfInBounds_toArray, List.set_cons_zero, List.set_cons_succ]
  as_aux_lemma =>
    refine wpAnyH_take_at (i := 6) 33 (.agg ka) rfl rfl (by kernel_rfl) (by kernel_rfl) (by kernel_rfl) (fun _ _ _ h => h) (yieldsIf_load_known (by kernel_rfl) 34 _ rfl (wa) (0) rfl (.agg ka) (fun w' hw' => (HLD.out w' hw').1)) hH ?_
    simp only [List.setIfInBounds_toArray, List.set_cons_zero, List.set_cons_succ]
    refine wpAnyH_take_at (i := 8) 35 (.agg ka) rfl rfl (by kernel_rfl) (by kernel_rfl) (by kernel_rfl) (fun _ _ _ h => h) (yieldsIf_load_known (by kernel_rfl) 34 _ rfl (wa) (0) rfl (.agg ka) (fun w' hw' => (HLD.out w' hw').1)) hH ?_
    simp only [List.setIfInBounds_toArray, List.set_cons_zero, List.set_cons_succ]
    refine wpAnyH_ready (rs := [7]) (by kernel_rfl) (by simp) ?_
    refine AllReadyH.cons rfl (fun K hK => ?_) AllReadyH.nil
    rw [if_pos (by rfl)]
    go_simp
    go_wp2_with (go_at_call 24; refine (C3.out _).mono ?_; rintro e v7 ⟨rfl, kv7⟩)
    have Kv7 : Kept w5.heap.size w5.heap.size w5 v7 := Kv3.trans (kv7.mono Kv3.size (fun i hi _ => Nat.ne_of_lt (Nat.lt_of_lt_of_le hi Kv3.size)))
    refine hK.out _ _ (Kv7) (fun hH => ?_)
    clear hK K
    refine wpAnyH_ready (rs := [9]) (by kernel_rfl) (by simp) ?_
    refine AllReadyH.cons rfl (fun K hK => ?_) AllReadyH.nil
    rw [if_pos (by rfl)]
    go_simp
    go_wp2_with (go_at_call 25; refine (C4.out _).mono ?_; rintro e v9 ⟨rfl, kv9⟩)
    have Kv9 : Kept w5.heap.size w5.heap.size w5 v9 := Kv7.trans (kv9.mono Kv7.size (fun i hi _ => Nat.ne_of_lt (Nat.lt_of_lt_of_le hi Kv7.size)))
    refine hK.out _ _ (Kv9) (fun hH => ?_)
    clear hK K
    refine wpAnyH_take_at (i := 10) 37 (.bool true) rfl rfl (by kernel_rfl) (by kernel_rfl) (by kernel_rfl) (fun _ _ _ h => h) (.inl ⟨by kernel_rfl, fun w9 _ => by go_simp⟩) hH ?_
    simp only [List.setIfInBounds_toArray, List.set_cons_zero, List.set_cons_succ]
    refine wpAnyH_take_at (i := 11) 38 (.bool true) rfl rfl (by kernel_rfl) (by kernel_rfl) (by kernel_rfl) (fun _ _ _ h => h) (.inl ⟨by kernel_rfl, fun w9 _ => by go_simp⟩) hH ?_
    simp only [List.setIfInBounds_toArray, List.set_cons_zero, List.set_cons_succ]
    refine wpAnyH_take_at (i := 12) 39 (.bool true) rfl rfl (by kernel_rfl) (by kernel_rfl) (by kernel_rfl) (fun _ _ _ h => h) (.inl ⟨by kernel_rfl, fun w9 _ => by go_simp⟩) hH ?_
    simp only [List.setIfInBounds_toArray, List.set_cons_zero, List.set_cons_succ]
    as_aux_lemma =>
      refine wpAnyH_take_at (i := 13) 40 (.agg ka) rfl rfl (by kernel_rfl) (by kernel_rfl) (by kernel_rfl) (fun _ _ _ h => h) (yieldsIf_load_known (by kernel_rfl) 34 _ rfl (wa) (0) rfl (.agg ka) (fun w' hw' => (HLD.out w' hw').1)) hH ?_
      simp only [List.setIfInBounds_toArray, List.set_cons_zero, List.set_cons_succ]
      refine wpAnyH_take_at (i := 15) 42 (.agg cvr) rfl rfl (by kernel_rfl) (by kernel_rfl) (by kernel_rfl) (fun _ _ _ h => h) (yieldsIf_load_known (by kernel_rfl) 33 _ rfl (wm) (0) rfl (.agg cvr) (fun w' hw' => (HLD.out w' hw').2.2.2)) hH ?_
      simp only [List.setIfInBounds_toArray, List.set_cons_zero, List.set_cons_succ]
      refine wpAnyH_ready (rs := [14]) (by kernel_rfl) (by simp) ?_
      refine AllReadyH.cons rfl (fun K hK => ?_) AllReadyH.nil
      rw [if_pos (by rfl)]
      go_simp
      go_wp2_with (go_at_call 26; refine (C5.out _).mono ?_; rintro e v14 ⟨rfl, kv14⟩)
      have Kv14 : Kept w5.heap.size w5.heap.size w5 v14 := Kv9.trans (kv14.mono Kv9.size (fun i hi _ => Nat.ne_of_lt (Nat.lt_of_lt_of_le hi Kv9.size)))
      refine hK.out _ _ (Kv14) (fun hH => ?_)
      clear hK K
      refine wpAnyH_take_at (i := 16) 43 (.bool true) rfl rfl (by kernel_rfl) (by kernel_rfl) (by kernel_rfl) (fun _ _ _ h => h) (.inl ⟨by kernel_rfl, fun w9 _ => by go_simp⟩) hH ?_
      simp only [List.setIfInBounds_toArray, List.set_cons_zero, List.set_cons_succ]
      refine wpAnyH_take_at (i := 17) 44 (.bool true) rfl rfl (by kernel_rfl) (by kernel_rfl) (by kernel_rfl) (fun _ _ _ h => h) (.inl ⟨by kernel_rfl, fun w9 _ => by go_simp⟩) hH ?_
      simp only [List.setIfInBounds_toArray, List.set_cons_zero, List.set_cons_succ]
      refine wpAnyH_take_at (i := 18) 45 (.bool true) rfl rfl (by kernel_rfl) (by kernel_rfl) (by kernel_rfl) (fun _ _ _ h => h) (.inl ⟨by kernel_rfl, fun w9 _ => by go_simp⟩) hH ?_
      simp only [List.setIfInBounds_toArray, List.set_cons_zero, List.set_cons_succ]
      as_aux_lemma =>
        refine wpAnyH_take_at (i := 19) 46 (.agg ka) rfl rfl (by kernel_rfl) (by kernel_rfl) (by kernel_rfl) (fun _ _ _ h => h) (yieldsIf_load_known (by kernel_rfl) 34 _ rfl (wa) (0) rfl (.agg ka) (fun w' hw' => (HLD.out w' hw').1)) hH ?_
        simp only [List.setIfInBounds_toArray, List.set_cons_zero, List.set_cons_succ]
        refine wpAnyH_take_at (i := 20) 47 (.string t) rfl rfl (by kernel_rfl) (by kernel_rfl) (by kernel_rfl) (fun _ _ _ h => h) (.inl ⟨by kernel_rfl, fun w9 _ => by go_simp⟩) hH ?_
        simp only [List.setIfInBounds_toArray, List.set_cons_zero, List.set_cons_succ]
        refine wpAnyH_take_at (i := 22) 49 (.agg cvr) rfl rfl (by kernel_rfl) (by kernel_rfl) (by kernel_rfl) (fun _ _ _ h => h) (yieldsIf_load_known (by kernel_rfl) 33 _ rfl (wm) (0) rfl (.agg cvr) (fun w' hw' => (HLD.out w' hw').2.2.2)) hH ?_
        simp only [List.setIfInBounds_toArray, List.set_cons_zero, List.set_cons_succ]
        refine wpAnyH_take_at (i := 23) 50 (.string t) rfl rfl (by kernel_rfl) (by kernel_rfl) (by kernel_rfl) (fun _ _ _ h => h) (.inl ⟨by kernel_rfl, fun w9 _ => by go_simp⟩) hH ?_
        simp only [List.setIfInBounds_toArray, List.set_cons_zero, List.set_cons_succ]
        refine wpAnyH_ready (rs := [21]) (by kernel_rfl) (by simp) ?_
        refine AllReadyH.cons rfl (fun K hK => ?_) AllReadyH.nil
        rw [if_pos (by rfl)]
        go_simp
        go_wp2_with (go_at_call 27; refine (C7'.out _).mono ?_; rintro e v21 ⟨rfl, kv21⟩)
        have Kv21 : Kept w5.heap.size w5.heap.size w5 v21 := Kv14.trans (kv21.mono Kv14.size (fun i hi _ => Nat.ne_of_lt (Nat.lt_of_lt_of_le hi Kv14.size)))
        refine hK.out _ _ (Kv21) (fun hH => ?_)
        clear hK K
        refine wpAnyH_ready (rs := [24]) (by kernel_rfl) (by simp) ?_
        refine AllReadyH.cons rfl (fun K hK => ?_) AllReadyH.nil
        rw [if_pos (by rfl)]
        go_simp
        go_wp2_with (go_at_call 28; refine (C8'.out _).mono ?_; rintro e v24 ⟨rfl, kv24⟩)
        have Kv24 : Kept w5.heap.size w5.heap.size w5 v24 := Kv21.trans (kv24.mono Kv21.size (fun i hi _ => Nat.ne_of_lt (Nat.lt_of_lt_of_le hi Kv21.size)))
        refine hK.out _ _ (Kv24) (fun hH => ?_)
        clear hK K
        refine wpAnyH_take_at (i := 25) 52 (.bool true) rfl rfl (by kernel_rfl) (by kernel_rfl) (by kernel_rfl) (fun _ _ _ h => h) (.inl ⟨by kernel_rfl, fun w9 _ => by go_simp⟩) hH ?_
        simp only [List.setIfInBounds_toArray, List.set_cons_zero, List.set_cons_succ]
        refine wpAnyH_take_at (i := 26) 53 (.bool true) rfl rfl (by kernel_rfl) (by kernel_rfl) (by kernel_rfl) (fun _ _ _ h => h) (.inl ⟨by kernel_rfl, fun w9 _ => by go_simp⟩) hH ?_
        simp only [List.setIfInBounds_toArray, List.set_cons_zero, List.set_cons_succ]
        refine wpAnyH_take_at (i := 27) 54 (.bool true) rfl rfl (by kernel_rfl) (by kernel_rfl) (by kernel_rfl) (fun _ _ _ h => h) (.inl ⟨by kernel_rfl, fun w9 _ => by go_simp⟩) hH ?_
        simp only [List.setIfInBounds_toArray, List.set_cons_zero, List.set_cons_succ]
        as_aux_lemma =>
          refine wpAnyH_take_at (i := 28) 55 (.agg cvr) rfl rfl (by kernel_rfl) (by kernel_rfl) (by kernel_rfl) (fun _ _ _ h => h) (yieldsIf_load_known (by kernel_rfl) 33 _ rfl (wm) (0) rfl (.agg cvr) (fun w' hw' => (HLD.out w' hw').2.2.2)) hH ?_
          simp only [List.setIfInBounds_toArray, List.set_cons_zero, List.set_cons_succ]
          refine wpAnyH_take_at (i := 29) 56 (.string t) rfl rfl (by kernel_rfl) (by kernel_rfl) (by kernel_rfl) (fun _ _ _ h => h) (.inl ⟨by kernel_rfl, fun w9 _ => by go_simp⟩) hH ?_
          simp only [List.setIfInBounds_toArray, List.set_cons_zero, List.set_cons_succ]
          refine wpAnyH_take_at (i := 30) 57 (.agg cvr) rfl rfl (by kernel_rfl) (by kernel_rfl) (by kernel_rfl) (fun _ _ _ h => h) (yieldsIf_load_known (by kernel_rfl) 33 _ rfl (wm) (0) rfl (.agg cvr) (fun w' hw' => (HLD.out w' hw').2.2.2)) hH ?_
          simp only [List.setIfInBounds_toArray, List.set_cons_zero, List.set_cons_succ]
          refine wpAnyH_take_at (i := 31) 58 (.string t) rfl rfl (by kernel_rfl) (by kernel_rfl) (by kernel_rfl) (fun _ _ _ h => h) (.inl ⟨by kernel_rfl, fun w9 _ => by go_simp⟩) hH ?_
          simp only [List.setIfInBounds_toArray, List.set_cons_zero, List.set_cons_succ]
          refine wpAnyH_ready (rs := [32]) (by kernel_rfl) (by simp) ?_
          refine AllReadyH.cons rfl (fun K hK => ?_) AllReadyH.nil
          rw [if_pos (by rfl)]
          go_simp
          go_wp2_with (go_at_call 28; refine (C8'.out _).mono ?_; rintro e v32 ⟨rfl, kv32⟩)
          have Kv32 : Kept w5.heap.size w5.heap.size w5 v32 := Kv24.trans (kv32.mono Kv24.size (fun i hi _ => Nat.ne_of_lt (Nat.lt_of_lt_of_le hi Kv24.size)))
          refine hK.out _ _ (Kv32) (fun hH => ?_)
          clear hK K
          refine wpAnyH_ready (rs := [33]) (by kernel_rfl) (by simp) ?_
          refine AllReadyH.cons rfl (fun K hK => ?_) AllReadyH.nil
          rw [if_pos (by rfl)]
          go_simp
          go_wp2_with (go_at_call 29; refine (C9'.out _).mono ?_; rintro e v33 ⟨rfl, kv33⟩)
          have Kv33 : Kept w5.heap.size w5.heap.size w5 v33 := Kv32.trans (kv33.mono Kv32.size (fun i hi _ => Nat.ne_of_lt (Nat.lt_of_lt_of_le hi Kv32.size)))
          refine hK.out _ _ (Kv33) (fun hH => ?_)
          clear hK K
          refine wpAnyH_take_at (i := 34) 61 (.bool true) rfl rfl (by kernel_rfl) (by kernel_rfl) (by kernel_rfl) (fun _ _ _ h => h) (.inl ⟨by kernel_rfl, fun w9 _ => by go_simp⟩) hH ?_
          simp only [List.setIfInBounds_toArray, List.set_cons_zero, List.set_cons_succ]
          refine wpAnyH_take_at (i := 35) 62 (.bool true) rfl rfl (by kernel_rfl) (by kernel_rfl) (by kernel_rfl) (fun _ _ _ h => h) (.inl ⟨by kernel_rfl, fun w9 _ => by go_simp⟩) hH ?_
          simp only [List.setIfInBounds_toArray, List.set_cons_zero, List.set_cons_succ]
          as_aux_lemma =>
            refine wpAnyH_take_at (i := 36) 63 (.agg kb) rfl rfl (by kernel_rfl) (by kernel_rfl) (by kernel_rfl) (fun _ _ _ h => h) (yieldsIf_load_known (by kernel_rfl) 34 _ rfl (wa + 1) (0) rfl (.agg kb) (fun w' hw' => (HLD.out w' hw').2.1)) hH ?_
            simp only [List.setIfInBounds_toArray, List.set_cons_zero, List.set_cons_succ]
            refine wpAnyH_take_at (i := 37) 64 (.string t) rfl rfl (by kernel_rfl) (by kernel_rfl) (by kernel_rfl) (fun _ _ _ h => h) (.inl ⟨by kernel_rfl, fun w9 _ => by go_simp⟩) hH ?_
            simp only [List.setIfInBounds_toArray, List.set_cons_zero, List.set_cons_succ]
            refine wpAnyH_take_at (i := 38) 65 (.agg kc) rfl rfl (by kernel_rfl) (by kernel_rfl) (by kernel_rfl) (fun _ _ _ h => h) (yieldsIf_load_known (by kernel_rfl) 34 _ rfl (wa + 1 + 1) (0) rfl (.agg kc) (fun w' hw' => (HLD.out w' hw').2.2.1)) hH ?_
            simp only [List.setIfInBounds_toArray, List.set_cons_zero, List.set_cons_succ]
            refine wpAnyH_take_at (i := 40) 67 (.agg kc) rfl rfl (by kernel_rfl) (by kernel_rfl) (by kernel_rfl) (fun _ _ _ h => h) (yieldsIf_load_known (by kernel_rfl) 34 _ rfl (wa + 1 + 1) (0) rfl (.agg kc) (fun w' hw' => (HLD.out w' hw').2.2.1)) hH ?_
            simp only [List.setIfInBounds_toArray, List.set_cons_zero, List.set_cons_succ]
            refine wpAnyH_take_at (i := 41) 68 (.agg kb) rfl rfl (by kernel_rfl) (by kernel_rfl) (by kernel_rfl) (fun _ _ _ h => h) (yieldsIf_load_known (by kernel_rfl) 34 _ rfl (wa + 1) (0) rfl (.agg kb) (fun w' hw' => (HLD.out w' hw').2.1)) hH ?_
            simp only [List.setIfInBounds_toArray, List.set_cons_zero, List.set_cons_succ]
            refine wpAnyH_take_at (i := 42) 69 (.string t) rfl rfl (by kernel_rfl) (by kernel_rfl) (by kernel_rfl) (fun _ _ _ h => h) (.inl ⟨by kernel_rfl, fun w9 _ => by go_simp⟩) hH ?_
            simp only [List.setIfInBounds_toArray, List.set_cons_zero, List.set_cons_succ]
            refine wpAnyH_ready (rs := [39]) (by kernel_rfl) (by simp) ?_
            refine AllReadyH.cons rfl (fun K hK => ?_) AllReadyH.nil
            rw [if_pos (by rfl)]
            go_simp
            go_wp2_with (go_at_call 29; refine (C10'.out _).mono ?_; rintro e v39 ⟨rfl, kv39⟩)
            have Kv39 : Kept w5.heap.size w5.heap.size w5 v39 := Kv33.trans (kv39.mono Kv33.size (fun i hi _ => Nat.ne_of_lt (Nat.lt_of_lt_of_le hi Kv33.size)))
            refine hK.out _ _ (Kv39) (fun hH => ?_)
            clear hK K
            refine wpAnyH_ready (rs := [43]) (by kernel_rfl) (by simp) ?_
            refine AllReadyH.cons rfl (fun K hK => ?_) AllReadyH.nil
            rw [if_pos (by rfl)]
            go_simp
            go_wp2_with (go_at_call 28; refine (C11'.out _).mono ?_; rintro e v43 ⟨rfl, kv43⟩)
            have Kv43 : Kept w5.heap.size w5.heap.size w5 v43 := Kv39.trans (kv43.mono Kv39.size (fun i hi _ => Nat.ne_of_lt (Nat.lt_of_lt_of_le hi Kv39.size)))
            refine hK.out _ _ (Kv43) (fun hH => ?_)
            clear hK K
            refine wpAnyH_take_at (i := 44) 71 (.bool q) rfl rfl (by kernel_rfl) (by kernel_rfl) (by kernel_rfl) (fun _ _ _ h => h) (.inl ⟨by kernel_rfl, fun w9 _ => by go_simp⟩) hH ?_
            simp only [List.setIfInBounds_toArray, List.set_cons_zero, List.set_cons_succ]
            refine wpAnyH_take_at (i := 45) 72 (.bool true) rfl rfl (by kernel_rfl) (by kernel_rfl) (by kernel_rfl) (fun _ _ _ h => h) (.inl ⟨by kernel_rfl, fun w9 _ => by go_simp⟩) hH ?_
            simp only [List.setIfInBounds_toArray, List.set_cons_zero, List.set_cons_succ]
            refine wpAnyH_take_at (i := 46) 73 (.bool true) rfl rfl (by kernel_rfl) (by kernel_rfl) (by kernel_rfl) (fun _ _ _ h => h) (.inl ⟨by kernel_rfl, fun w9 _ => by go_simp⟩) hH ?_
            simp only [List.setIfInBounds_toArray, List.set_cons_zero, List.set_cons_succ]
            refine wpAnyH_take_at (i := 47) 74 (.bool true) rfl rfl (by kernel_rfl) (by kernel_rfl) (by kernel_rfl) (fun _ _ _ h => h) (.inl ⟨by kernel_rfl, fun w9 _ => by go_simp⟩) hH ?_
            simp only [List.setIfInBounds_toArray, List.set_cons_zero, List.set_cons_succ]
            as_aux_lemma =>
              refine wpAnyH_take_at (i := 48) 75 (.agg ka) rfl rfl (by kernel_rfl) (by kernel_rfl) (by kernel_rfl) (fun _ _ _ h => h) (yieldsIf_load_known (by kernel_rfl) 34 _ rfl (wa) (0) rfl (.agg ka) (fun w' hw' => (HLD.out w' hw').1)) hH ?_
              simp only [List.setIfInBounds_toArray, List.set_cons_zero, List.set_cons_succ]
              refine wpAnyH_take_at (i := 49) 76 (.string s) rfl rfl (by kernel_rfl) (by kernel_rfl) (by kernel_rfl) (fun _ _ _ h => h) (.inl ⟨by kernel_rfl, fun w9 _ => by go_simp⟩) hH ?_
              simp only [List.setIfInBounds_toArray, List.set_cons_zero, List.set_cons_succ]
              refine wpAnyH_take_at (i := 50) 77 (.string t) rfl rfl (by kernel_rfl) (by kernel_rfl) (by kernel_rfl) (fun _ _ _ h => h) (.inl ⟨by kernel_rfl, fun w9 _ => by go_simp⟩) hH ?_
              simp only [List.setIfInBounds_toArray, List.set_cons_zero, List.set_cons_succ]
              refine wpAnyH_take_at (i := 52) 79 (.agg ka) rfl rfl (by kernel_rfl) (by kernel_rfl) (by kernel_rfl) (fun _ _ _ h => h) (yieldsIf_load_known (by kernel_rfl) 34 _ rfl (wa) (0) rfl (.agg ka) (fun w' hw' => (HLD.out w' hw').1)) hH ?_
              simp only [List.setIfInBounds_toArray, List.set_cons_zero, List.set_cons_succ]
              refine wpAnyH_take_at (i := 53) 80 (.string s) rfl rfl (by kernel_rfl) (by kernel_rfl) (by kernel_rfl) (fun _ _ _ h => h) (.inl ⟨by kernel_rfl, fun w9 _ => by go_simp⟩) hH ?_
              simp only [List.setIfInBounds_toArray, List.set_cons_zero, List.set_cons_succ]
              refine wpAnyH_take_at (i := 54) 81 (.string t) rfl rfl (by kernel_rfl) (by kernel_rfl) (by kernel_rfl) (fun _ _ _ h => h) (.inl ⟨by kernel_rfl, fun w9 _ => by go_simp⟩) hH ?_
              simp only [List.setIfInBounds_toArray, List.set_cons_zero, List.set_cons_succ]
              refine wpAnyH_ready (rs := [51]) (by kernel_rfl) (by simp) ?_
              refine AllReadyH.cons rfl (fun K hK => ?_) AllReadyH.nil
              rw [if_pos (by rfl)]
              go_simp
              go_wp2_with (go_at_call 30; refine (C12'.out _).mono ?_; rintro e v51 ⟨rfl, kv51⟩)
              have Kv51 : Kept w5.heap.size w5.heap.size w5 v51 := Kv43.trans (kv51.mono Kv43.size (fun i hi _ => Nat.ne_of_lt (Nat.lt_of_lt_of_le hi Kv43.size)))
              refine hK.out _ _ (Kv51) (fun hH => ?_)
              clear hK K
              refine wpAnyH_ready (rs := [55]) (by kernel_rfl) (by simp) ?_
              refine AllReadyH.cons rfl (fun K hK => ?_) AllReadyH.nil
              rw [if_pos (by rfl)]
              go_simp
              go_wp2_with (go_at_call 31; refine (C13'.out _).mono ?_; rintro e v55 ⟨rfl, kv55⟩)
              have Kv55 : Kept w5.heap.size w5.heap.size w5 v55 := Kv51.trans (kv55.mono Kv51.size (fun i hi _ => Nat.ne_of_lt (Nat.lt_of_lt_of_le hi Kv51.size)))
              refine hK.out _ _ (Kv55) (fun hH => ?_)
              clear hK K
              refine wpAnyH_take_at (i := 56) 83 (.bool true) rfl rfl (by kernel_rfl) (by kernel_rfl) (by kernel_rfl) (fun _ _ _ h => h) (.inl ⟨by kernel_rfl, fun w9 _ => by go_simp⟩) hH ?_
              simp only [List.setIfInBounds_toArray, List.set_cons_zero, List.set_cons_succ]
              refine wpAnyH_take_at (i := 57) 84 (.bool true) rfl rfl (by kernel_rfl) (by kernel_rfl) (by kernel_rfl) (fun _ _ _ h => h) (.inl ⟨by kernel_rfl, fun w9 _ => by go_simp⟩) hH ?_
              simp only [List.setIfInBounds_toArray, List.set_cons_zero, List.set_cons_succ]
              refine wpAnyH_take_at (i := 58) 85 (.bool true) rfl rfl (by kernel_rfl) (by kernel_rfl) (by kernel_rfl) (fun _ _ _ h => h) (.inl ⟨by kernel_rfl, fun w9 _ => by go_simp⟩) hH ?_
              simp only [List.setIfInBounds_toArray, List.set_cons_zero, List.set_cons_succ]
              as_aux_lemma =>
                refine wpAnyH_take_at (i := 59) 86 (.agg ka) rfl rfl (by kernel_rfl) (by kernel_rfl) (by kernel_rfl) (fun _ _ _ h => h) (yieldsIf_load_known (by kernel_rfl) 34 _ rfl (wa) (0) rfl (.agg ka) (fun w' hw' => (HLD.out w' hw').1)) hH ?_
                simp only [List.setIfInBounds_toArray, List.set_cons_zero, List.set_cons_succ]
                refine wpAnyH_take_at (i := 60) 87 (.agg kb) rfl rfl (by kernel_rfl) (by kernel_rfl) (by kernel_rfl) (fun _ _ _ h => h) (yieldsIf_load_known (by kernel_rfl) 34 _ rfl (wa + 1) (0) rfl (.agg kb) (fun w' hw' => (HLD.out w' hw').2.1)) hH ?_
                simp only [List.setIfInBounds_toArray, List.set_cons_zero, List.set_cons_succ]
                refine wpAnyH_take_at (i := 62) 89 (.agg ka) rfl rfl (by kernel_rfl) (by kernel_rfl) (by kernel_rfl) (fun _ _ _ h => h) (yieldsIf_load_known (by kernel_rfl) 34 _ rfl (wa) (0) rfl (.agg ka) (fun w' hw' => (HLD.out w' hw').1)) hH ?_
                simp only [List.setIfInBounds_toArray, List.set_cons_zero, List.set_cons_succ]
                refine wpAnyH_take_at (i := 63) 90 (.agg kb) rfl rfl (by kernel_rfl) (by kernel_rfl) (by kernel_rfl) (fun _ _ _ h => h) (yieldsIf_load_known (by kernel_rfl) 34 _ rfl (wa + 1) (0) rfl (.agg kb) (fun w' hw' => (HLD.out w' hw').2.1)) hH ?_
                simp only [List.setIfInBounds_toArray, List.set_cons_zero, List.set_cons_succ]
                refine wpAnyH_ready (rs := [61]) (by kernel_rfl) (by simp) ?_
                refine AllReadyH.cons rfl (fun K hK => ?_) AllReadyH.nil
                rw [if_pos (by rfl)]
                go_simp
                go_wp2_with (go_at_call 32; refine (C14.out _).mono ?_; rintro e v61 ⟨rfl, kv61⟩)
                have Kv61 : Kept w5.heap.size w5.heap.size w5 v61 := Kv55.trans (kv61.mono Kv55.size (fun i hi _ => Nat.ne_of_lt (Nat.lt_of_lt_of_le hi Kv55.size)))
                refine hK.out _ _ (Kv61) (fun hH => ?_)
                clear hK K
                refine wpAnyH_ready (rs := [64]) (by kernel_rfl) (by simp) ?_
                refine AllReadyH.cons rfl (fun K hK => ?_) AllReadyH.nil
                rw [if_pos (by rfl)]
                go_simp
                go_wp2_with (go_at_call 33; refine (C15.out _).mono ?_; rintro e v64 ⟨rfl, kv64⟩)
                have Kv64 : Kept w5.heap.size w5.heap.size w5 v64 := Kv61.trans (kv64.mono Kv61.size (fun i hi _ => Nat.ne_of_lt (Nat.lt_of_lt_of_le hi Kv61.size)))
                refine hK.out _ _ (Kv64) (fun hH => ?_)
                clear hK K
                refine wpAnyH_take_at (i := 65) 92 (.bool true) rfl rfl (by kernel_rfl) (by kernel_rfl) (by kernel_rfl) (fun _ _ _ h => h) (.inl ⟨by kernel_rfl, fun w9 _ => by go_simp⟩) hH ?_
                simp only [List.setIfInBounds_toArray, List.set_cons_zero, List.set_cons_succ]
                refine wpAnyH_take_at (i := 66) 93 (.bool true) rfl rfl (by kernel_rfl) (by kernel_rfl) (by kernel_rfl) (fun _ _ _ h => h) (.inl ⟨by kernel_rfl, fun w9 _ => by go_simp⟩) hH ?_
                simp only [List.setIfInBounds_toArray, List.set_cons_zero, List.set_cons_succ]
                refine wpAnyH_take_at (i := 67) 10 (.bool true) rfl rfl (by kernel_rfl) (by kernel_rfl) (by kernel_rfl) (fun _ _ _ h => h) (.inl ⟨by kernel_rfl, fun w9 _ => by go_simp⟩) hH ?_
                simp only [List.setIfInBounds_toArray, List.set_cons_zero, List.set_cons_succ]
                refine wpAnyH_done (by kernel_rfl) ?_ _
                refine NoPanic.normal ?_
                as_aux_lemma =>
                  go_wp2
                  go_ret
                  exact ⟨rfl, HK5.out.trans (Kv64.mono HK5.out.size (fun i hi _ => by have := HK5.out.size; omega))⟩

end Go.Proofs.Ytdedookpdnbdiaa
