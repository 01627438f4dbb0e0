/-
  The law KeysRoots.
-/
import Derived.Test.YtdfbmijbmlainaaDoorKC

namespace Go.Proofs.YtdfbmijbmlainaaDoor
open Go.RowKit Go.Lib

set_option maxRecDepth 100000 in
set_option maxHeartbeats 6400000 in
theorem keysroots_walk (k : List UInt8) (hk : k.length = 32) (n : Int) (w : World) (tab : Tab w) : Calls Tryd.prog 8 #[.agg (bcells k).toArray, .int .i64 n] w fun e w' => e = .returned (.bool true) ∧ Kept w.heap.size w.heap.size w w' := by
  have HAW := Lib.hid (fun (x : World) (k : Kept w.heap.size w.heap.size w x) => keys_awake x (tab.onto11 k))
  have HLK := Lib.hid (fun (u : World) (b : Nat) (h : u.heap[b]? = some (.cells (bcells k).toArray 23 (0, 0))) => load_hash11 hk h)
  have gd := macGuard25
  by_cases hn : n < 0 ∨ 64 ≤ n
  · have HAB := Lib.hid (fun x => app_bad11 none k n hn x)
    have HB0 := Lib.hid build_hash11
    have heq := fun x => mac_equalIn x Ky.z32 rfl
    generalize (bcells Ky.z32).toArray = zc at HAB HB0 heq
    generalize (bcells k).toArray = kc at HLK HAB ⊢
    clear hk tab
    by_cases hn0 : n < 0
    · have hd : decide (n < 0) = true := decide_eq_true hn0
      clear hn
      go_enter Tryd.func8, Tryd.ntmps8
      go_upto_region 0 with fail
      refine wp_region_lit ?_
      refine @BigFrame.wpList_want _ _ _ _ _ _ _ ?hw97027 ?_
      case hw97027 => kernel_rfl
      intro K hK
      go_simp
      refine hK _ _ ?_
      clear hK K
      have kn : Kept w.heap.size w.heap.size w (w.alloc (.cells kc 23)) := (Kept.refl _ _ _).alloc (Nat.le_refl _) _
      have rpb := heap_new w (.cells kc 23)
      have Kw1 := kn
      generalize w.alloc (.cells kc 23) = w1 at kn rpb Kw1  ⊢
      obtain ⟨pb, hpb⟩ : ∃ n, n = w.heap.size := ⟨_, rfl⟩
      rw [← hpb] at rpb
      (try rw [← hpb])
      clear hpb kn
      refine @BigFrame.wpList_want _ _ _ _ _ _ _ ?hw97028 ?_
      case hw97028 => kernel_rfl
      intro K hK
      go_simp
      refine hK _ _ ?_
      clear hK K
      have Rpb := Lib.hid rpb
      clear rpb
      have KW := Lib.hid Kw1
      clear Kw1
      go_upto_region 2 with fail
      refine wp_region_lit ?_
      refine @BigFrame.wpList_want _ _ _ _ _ _ _ ?hw97030 ?_
      case hw97030 => kernel_rfl
      intro K hK
      go_simp
      go_at_call 9
      refine (HAW.out _ KW.out).mono ?_
      rintro e x1 ⟨rfl, X1⟩
      refine hK _ _ ?_
      clear hK K
      refine @BigFrame.wpList_want _ _ _ _ _ _ _ ?hw97031 ?_
      case hw97031 => kernel_rfl
      intro K hK
      go_simp
      refine hK _ _ ?_
      clear hK K
      refine @wpList_load_known _ _ _ _ _ _ _ ?hw97032 23 (.tmp 2) rfl (pb) (0) rfl (.agg kc) (HLK.out _ _ (row_kept Rpb.out X1)) ?_
      case hw97032 => kernel_rfl
      simp only [Act.put, List.setIfInBounds_toArray, List.set_cons_zero, List.set_cons_succ]
      refine @BigFrame.wpList_want _ _ _ _ _ _ _ ?hw97033 ?_
      case hw97033 => kernel_rfl
      intro K hK
      go_simp
      refine hK _ _ ?_
      clear hK K
      refine @BigFrame.wpList_want _ _ _ _ _ _ _ ?hw97029 ?_
      case hw97029 => kernel_rfl
      intro K hK
      go_simp
      go_at_call 12
      refine (HAB.out _).mono ?_
      rintro e x2 ⟨rfl, k2⟩
      have X2 : Kept w1.heap.size w1.heap.size w1 x2 := X1.onto k2
      refine hK _ _ ?_
      clear hK K
      refine @wpL_build0 _ _ _ _ _ _ _ ?hw97034 23 rfl _ (HB0.out _) ?_
      case hw97034 => kernel_rfl
      simp only [Act.put, List.setIfInBounds_toArray, List.set_cons_zero, List.set_cons_succ]
      refine @BigFrame.wpList_want _ _ _ _ _ _ _ ?hw97035 ?_
      case hw97035 => kernel_rfl
      intro K hK
      go_simp
      refine hK _ _ ?_
      clear hK K
      refine @BigFrame.wpList_want _ _ _ _ _ _ _ ?hw97036 ?_
      case hw97036 => kernel_rfl
      intro K hK
      go_simp
      refine hK _ _ ?_
      clear hK K
      refine @BigFrame.wpList_want _ _ _ _ _ _ _ ?hw97037 ?_
      case hw97037 => kernel_rfl
      intro K hK
      go_simp
      refine hK _ _ ?_
      clear hK K
      go_wp2
      go_ret
      exact ⟨rfl, KW.out.onto X2⟩
    · have hd : decide (n < 0) = false := decide_eq_false hn0
      have hd2 : decide (n ≥ 64) = true := decide_eq_true (by omega)
      clear hn
      go_enter Tryd.func8, Tryd.ntmps8
      go_upto_region 0 with fail
      refine wp_region_lit ?_
      refine @BigFrame.wpList_want _ _ _ _ _ _ _ ?hw97038 ?_
      case hw97038 => kernel_rfl
      intro K hK
      go_simp
      refine hK _ _ ?_
      clear hK K
      have kn : Kept w.heap.size w.heap.size w (w.alloc (.cells kc 23)) := (Kept.refl _ _ _).alloc (Nat.le_refl _) _
      have rpb := heap_new w (.cells kc 23)
      have Kw1 := kn
      generalize w.alloc (.cells kc 23) = w1 at kn rpb Kw1  ⊢
      obtain ⟨pb, hpb⟩ : ∃ n, n = w.heap.size := ⟨_, rfl⟩
      rw [← hpb] at rpb
      (try rw [← hpb])
      clear hpb kn
      refine @BigFrame.wpList_want _ _ _ _ _ _ _ ?hw97039 ?_
      case hw97039 => kernel_rfl
      intro K hK
      go_simp
      refine hK _ _ ?_
      clear hK K
      have Rpb := Lib.hid rpb
      clear rpb
      have KW := Lib.hid Kw1
      clear Kw1
      go_upto_region 2 with fail
      refine wp_region_lit ?_
      refine @BigFrame.wpList_want _ _ _ _ _ _ _ ?hw97030 ?_
      case hw97030 => kernel_rfl
      intro K hK
      go_simp
      go_at_call 9
      refine (HAW.out _ KW.out).mono ?_
      rintro e x1 ⟨rfl, X1⟩
      refine hK _ _ ?_
      clear hK K
      refine @BigFrame.wpList_want _ _ _ _ _ _ _ ?hw97031 ?_
      case hw97031 => kernel_rfl
      intro K hK
      go_simp
      refine hK _ _ ?_
      clear hK K
      refine @wpList_load_known _ _ _ _ _ _ _ ?hw97032 23 (.tmp 2) rfl (pb) (0) rfl (.agg kc) (HLK.out _ _ (row_kept Rpb.out X1)) ?_
      case hw97032 => kernel_rfl
      simp only [Act.put, List.setIfInBounds_toArray, List.set_cons_zero, List.set_cons_succ]
      refine @BigFrame.wpList_want _ _ _ _ _ _ _ ?hw97033 ?_
      case hw97033 => kernel_rfl
      intro K hK
      go_simp
      refine hK _ _ ?_
      clear hK K
      refine @BigFrame.wpList_want _ _ _ _ _ _ _ ?hw97029 ?_
      case hw97029 => kernel_rfl
      intro K hK
      go_simp
      go_at_call 12
      refine (HAB.out _).mono ?_
      rintro e x2 ⟨rfl, k2⟩
      have X2 : Kept w1.heap.size w1.heap.size w1 x2 := X1.onto k2
      refine hK _ _ ?_
      clear hK K
      refine @wpL_build0 _ _ _ _ _ _ _ ?hw97034 23 rfl _ (HB0.out _) ?_
      case hw97034 => kernel_rfl
      simp only [Act.put, List.setIfInBounds_toArray, List.set_cons_zero, List.set_cons_succ]
      refine @BigFrame.wpList_want _ _ _ _ _ _ _ ?hw97035 ?_
      case hw97035 => kernel_rfl
      intro K hK
      go_simp
      refine hK _ _ ?_
      clear hK K
      refine @BigFrame.wpList_want _ _ _ _ _ _ _ ?hw97036 ?_
      case hw97036 => kernel_rfl
      intro K hK
      go_simp
      refine hK _ _ ?_
      clear hK K
      refine @BigFrame.wpList_want _ _ _ _ _ _ _ ?hw97037 ?_
      case hw97037 => kernel_rfl
      intro K hK
      go_simp
      refine hK _ _ ?_
      clear hK K
      go_wp2
      go_ret
      exact ⟨rfl, KW.out.onto X2⟩
  · have hd : decide (n < 0) = false := decide_eq_false (fun h => hn (.inl h))
    have hd2 : decide (n ≥ 64) = false := decide_eq_false (fun h => hn (.inr h))
    obtain ⟨m, rfl⟩ : ∃ m : Nat, n = (m : Int) := ⟨n.toNat, by omega⟩
    have hm : m < 64 := by omega
    have HA1 := Lib.hid (fun (x : World) (kk : Kept w.heap.size w.heap.size w x) => app_nil11 k hk m hm x (tab.onto11 kk))
    have HA2 := Lib.hid (fun x => refapp_calls11 k hk m hm x)
    have heq := fun x => mac_equalIn x (Ky.app k m) (Ky.app_length k m)
    generalize (bcells (Ky.app k m)).toArray = cu at HA1 HA2 heq
    generalize (bcells k).toArray = kc at HLK HA1 HA2 ⊢
    clear hk tab hn hm
    go_enter Tryd.func8, Tryd.ntmps8
    go_upto_region 0 with fail
    refine wp_region_lit ?_
    refine @BigFrame.wpList_want _ _ _ _ _ _ _ ?hw97040 ?_
    case hw97040 => kernel_rfl
    intro K hK
    go_simp
    refine hK _ _ ?_
    clear hK K
    have kn : Kept w.heap.size w.heap.size w (w.alloc (.cells kc 23)) := (Kept.refl _ _ _).alloc (Nat.le_refl _) _
    have rpb := heap_new w (.cells kc 23)
    have Kw1 := kn
    generalize w.alloc (.cells kc 23) = w1 at kn rpb Kw1  ⊢
    obtain ⟨pb, hpb⟩ : ∃ n, n = w.heap.size := ⟨_, rfl⟩
    rw [← hpb] at rpb
    (try rw [← hpb])
    clear hpb kn
    refine @BigFrame.wpList_want _ _ _ _ _ _ _ ?hw97041 ?_
    case hw97041 => kernel_rfl
    intro K hK
    go_simp
    refine hK _ _ ?_
    clear hK K
    have Rpb := Lib.hid rpb
    clear rpb
    have KW := Lib.hid Kw1
    clear Kw1
    have LK := Lib.hid (fun (x : World) (k : Kept w1.heap.size w1.heap.size w1 x) => HLK.out x pb (row_kept Rpb.out k))
    have KD : Kept w1.heap.size w1.heap.size w1 w1.drew := (Kept.refl _ _ _).drew
    go_upto_region 3 with fail
    refine wp_region_noPanic ?_
    refine wp_region_held_drew (S := fun w' => Kept w1.heap.size w1.heap.size w1 w') (by kernel_rfl) (KD) (fun hH => ?_)
    refine wpAnyH_ready (rs := [0]) (by kernel_rfl) (by simp) ?_
    refine AllReadyH.cons rfl (fun K hK => ?_) AllReadyH.nil
    rw [if_pos (by rfl)]
    go_simp
    go_wp2_with (go_at_call 9; refine (HAW.out _ (KW.out.onto KD)).mono ?_; rintro e x1 ⟨rfl, kx1⟩)
    have X1 : Kept w1.heap.size w1.heap.size w1 x1 := KD.trans (kx1.mono KD.size (fun i hi _ => Nat.ne_of_lt (Nat.lt_of_lt_of_le hi KD.size)))
    refine hK.out _ _ (X1) (fun hH => ?_)
    clear hK K
    refine wpAnyH_take_ex (i := 1) 20 rfl rfl (by kernel_rfl) (by kernel_rfl) (by kernel_rfl) (fun _ _ _ _ h => h) (by kernel_rfl) hH ?_
    apply Exists.intro
    apply And.intro
    · intro w9 _
      go_simp
      first | done | rfl
    simp only [List.setIfInBounds_toArray, List.set_cons_zero, List.set_cons_succ]
    refine wpAnyH_take_at (i := 2) 21 (.agg kc) rfl rfl (by kernel_rfl) (by kernel_rfl) (by kernel_rfl) (fun _ _ _ h => h) (yieldsIf_load_known (by kernel_rfl) 23 _ rfl (pb) (0) rfl (.agg kc) (LK.out)) hH ?_
    simp only [List.setIfInBounds_toArray, List.set_cons_zero, List.set_cons_succ]
    refine wpAnyH_take_ex (i := 3) 22 rfl rfl (by kernel_rfl) (by kernel_rfl) (by kernel_rfl) (fun _ _ _ _ h => h) (by kernel_rfl) hH ?_
    apply Exists.intro
    apply And.intro
    · intro w9 _
      go_simp
      first | done | rfl
    simp only [List.setIfInBounds_toArray, List.set_cons_zero, List.set_cons_succ]
    refine wpAnyH_take_at (i := 5) 24 (.agg kc) rfl rfl (by kernel_rfl) (by kernel_rfl) (by kernel_rfl) (fun _ _ _ h => h) (yieldsIf_load_known (by kernel_rfl) 23 _ rfl (pb) (0) rfl (.agg kc) (LK.out)) hH ?_
    simp only [List.setIfInBounds_toArray, List.set_cons_zero, List.set_cons_succ]
    refine wpAnyH_take_ex (i := 6) 25 rfl rfl (by kernel_rfl) (by kernel_rfl) (by kernel_rfl) (fun _ _ _ _ h => h) (by kernel_rfl) hH ?_
    apply Exists.intro
    apply And.intro
    · intro w9 _
      go_simp
      first | done | rfl
    simp only [List.setIfInBounds_toArray, List.set_cons_zero, List.set_cons_succ]
    refine wpAnyH_ready (rs := [4]) (by kernel_rfl) (by simp) ?_
    refine AllReadyH.cons rfl (fun K hK => ?_) AllReadyH.nil
    rw [if_pos (by rfl)]
    go_simp
    go_wp2_with (go_at_call 12; refine (HA1.out _ (KW.out.onto X1)).mono ?_; rintro e x2 ⟨rfl, kx2⟩)
    have X2 : Kept w1.heap.size w1.heap.size w1 x2 := X1.trans (kx2.mono X1.size (fun i hi _ => Nat.ne_of_lt (Nat.lt_of_lt_of_le hi X1.size)))
    refine hK.out _ _ (X2) (fun hH => ?_)
    clear hK K
    refine wpAnyH_ready (rs := [7]) (by kernel_rfl) (by simp) ?_
    refine AllReadyH.cons rfl (fun K hK => ?_) AllReadyH.nil
    rw [if_pos (by rfl)]
    go_simp
    go_wp2_with (go_at_call 13; refine (HA2.out _).mono ?_; rintro e x3 ⟨rfl, kx3⟩)
    have X3 : Kept w1.heap.size w1.heap.size w1 x3 := X2.trans (kx3.mono X2.size (fun i hi _ => Nat.ne_of_lt (Nat.lt_of_lt_of_le hi X2.size)))
    refine hK.out _ _ (X3) (fun hH => ?_)
    clear hK K
    refine wpAnyH_take_ex (i := 8) 27 rfl rfl (by kernel_rfl) (by kernel_rfl) (by kernel_rfl) (fun _ _ _ _ h => h) (by kernel_rfl) hH ?_
    apply Exists.intro
    apply And.intro
    · intro w9 _
      go_simp
      first | done | rfl
    simp only [List.setIfInBounds_toArray, List.set_cons_zero, List.set_cons_succ]
    refine wpAnyH_take_ex (i := 9) 28 rfl rfl (by kernel_rfl) (by kernel_rfl) (by kernel_rfl) (fun _ _ _ _ h => h) (by kernel_rfl) hH ?_
    apply Exists.intro
    apply And.intro
    · intro w9 _
      go_simp
      first | done | rfl
    simp only [List.setIfInBounds_toArray, List.set_cons_zero, List.set_cons_succ]
    refine wpAnyH_take_ex (i := 10) 4 rfl rfl (by kernel_rfl) (by kernel_rfl) (by kernel_rfl) (fun _ _ _ _ h => h) (by kernel_rfl) hH ?_
    apply Exists.intro
    apply And.intro
    · intro w9 _
      go_simp
      first | done | rfl
    simp only [List.setIfInBounds_toArray, List.set_cons_zero, List.set_cons_succ]
    refine wpAnyH_done (by kernel_rfl) ?_ _
    refine NoPanic.normal ?_
    go_wp2
    go_ret
    exact ⟨rfl, KW.out.onto X3⟩

end Go.Proofs.YtdfbmijbmlainaaDoor
