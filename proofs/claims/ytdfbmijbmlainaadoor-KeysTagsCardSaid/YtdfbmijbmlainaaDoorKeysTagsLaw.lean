/-
  The law KeysTags.
-/
import Derived.Test.YtdfbmijbmlainaaDoorKC

namespace Go.Proofs.YtdfbmijbmlainaaDoor
open Go.RowKit Go.Lib

set_option maxRecDepth 100000 in
set_option maxHeartbeats 6400000 in
theorem keystags_walk (k s : List UInt8) (hk : k.length = 32) (hs : s.length = 32) (w : World) (tab : Tab w) : Calls Tryd.prog 7 #[.agg (bcells k).toArray, .agg (bcells s).toArray] w fun e w' => e = .returned (.bool true) ∧ Kept w.heap.size w.heap.size w w' := by
  have HAW := Lib.hid (fun (x : World) (k : Kept w.heap.size w.heap.size w x) => keys_awake x (tab.onto11 k))
  have HLK := Lib.hid (fun (u : World) (b : Nat) (h : u.heap[b]? = some (.cells (bcells k).toArray 23 (0, 0))) => load_hash11 hk h)
  have HLS := Lib.hid (fun (u : World) (b : Nat) (h : u.heap[b]? = some (.cells (bcells s).toArray 23 (0, 0))) => load_hash11 hs h)
  have HT1 := Lib.hid (fun x => tag_calls11 k s hk hs x)
  have HT2 := Lib.hid (fun x => reftag_calls11 k s hk hs x)
  have gd := macGuard25
  have heq := fun x => mac_equalIn x (Ky.tag k s) (Ky.tag_length k s)
  generalize (bcells (Ky.tag k s)).toArray = cu at HT1 HT2 heq
  generalize (bcells k).toArray = kc at HLK HT1 HT2 ⊢
  generalize (bcells s).toArray = sc at HLS HT1 HT2 ⊢
  clear hk hs tab
  go_enter Tryd.func7, Tryd.ntmps7
  go_upto_region 0 with fail
  refine wp_region_lit ?_
  refine @BigFrame.wpList_want _ _ _ _ _ _ _ ?hw97024 ?_
  case hw97024 => kernel_rfl
  intro K hK
  go_simp
  refine hK _ _ ?_
  clear hK K
  have kn : Kept w.heap.size w.heap.size w (w.alloc (.cells kc 23)) := (Kept.refl _ _ _).alloc (Nat.le_refl _) _
  have rpb := heap_new w (.cells kc 23)
  have Kw1 := kn
  generalize w.alloc (.cells kc 23) = w1 at kn rpb Kw1  ⊢
  obtain ⟨pb, hpb⟩ : ∃ n, n = w.heap.size := ⟨_, rfl⟩
  rw [← hpb] at rpb
  (try rw [← hpb])
  clear hpb kn
  refine @BigFrame.wpList_want _ _ _ _ _ _ _ ?hw97025 ?_
  case hw97025 => kernel_rfl
  intro K hK
  go_simp
  refine hK _ _ ?_
  clear hK K
  have kn : Kept w1.heap.size w1.heap.size w1 (w1.alloc (.cells sc 23)) := (Kept.refl _ _ _).alloc (Nat.le_refl _) _
  have rtb := heap_new w1 (.cells sc 23)
  replace rpb := row_kept rpb kn
  have Kw2 := Kw1.onto kn
  generalize w1.alloc (.cells sc 23) = w2 at kn rtb Kw2 rpb ⊢
  obtain ⟨tb, htb⟩ : ∃ n, n = w1.heap.size := ⟨_, rfl⟩
  rw [← htb] at rtb
  (try rw [← htb])
  clear htb kn Kw1
  refine @BigFrame.wpList_want _ _ _ _ _ _ _ ?hw97026 ?_
  case hw97026 => kernel_rfl
  intro K hK
  go_simp
  refine hK _ _ ?_
  clear hK K
  have Rpb := Lib.hid rpb
  clear rpb
  have Rtb := Lib.hid rtb
  clear rtb
  have KW := Lib.hid Kw2
  clear Kw2
  have LK := Lib.hid (fun (x : World) (k : Kept w2.heap.size w2.heap.size w2 x) => HLK.out x pb (row_kept Rpb.out k))
  have LS := Lib.hid (fun (x : World) (k : Kept w2.heap.size w2.heap.size w2 x) => HLS.out x tb (row_kept Rtb.out k))
  have KD : Kept w2.heap.size w2.heap.size w2 w2.drew := (Kept.refl _ _ _).drew
  go_upto_region 1 with fail
  refine wp_region_noPanic ?_
  refine wp_region_held_drew (S := fun w' => Kept w2.heap.size w2.heap.size w2 w') (by kernel_rfl) (KD) (fun hH => ?_)
  refine wpAnyH_ready (rs := [0]) (by kernel_rfl) (by simp) ?_
  refine AllReadyH.cons rfl (fun K hK => ?_) AllReadyH.nil
  rw [if_pos (by rfl)]
  go_simp
  go_wp2_with (go_at_call 9; refine (HAW.out _ (KW.out.onto KD)).mono ?_; rintro e x1 ⟨rfl, kx1⟩)
  have X1 : Kept w2.heap.size w2.heap.size w2 x1 := KD.trans (kx1.mono KD.size (fun i hi _ => Nat.ne_of_lt (Nat.lt_of_lt_of_le hi KD.size)))
  refine hK.out _ _ (X1) (fun hH => ?_)
  clear hK K
  refine wpAnyH_take_ex (i := 1) 6 rfl rfl (by kernel_rfl) (by kernel_rfl) (by kernel_rfl) (fun _ _ _ _ h => h) (by kernel_rfl) hH ?_
  apply Exists.intro
  apply And.intro
  · intro w9 _
    go_simp
    first | done | rfl
  simp only [List.setIfInBounds_toArray, List.set_cons_zero, List.set_cons_succ]
  refine wpAnyH_take_at (i := 2) 7 (.agg kc) rfl rfl (by kernel_rfl) (by kernel_rfl) (by kernel_rfl) (fun _ _ _ h => h) (yieldsIf_load_known (by kernel_rfl) 23 _ rfl (pb) (0) rfl (.agg kc) (LK.out)) hH ?_
  simp only [List.setIfInBounds_toArray, List.set_cons_zero, List.set_cons_succ]
  refine wpAnyH_take_at (i := 3) 8 (.agg sc) rfl rfl (by kernel_rfl) (by kernel_rfl) (by kernel_rfl) (fun _ _ _ h => h) (yieldsIf_load_known (by kernel_rfl) 23 _ rfl (tb) (0) rfl (.agg sc) (LS.out)) hH ?_
  simp only [List.setIfInBounds_toArray, List.set_cons_zero, List.set_cons_succ]
  refine wpAnyH_take_at (i := 5) 10 (.agg kc) rfl rfl (by kernel_rfl) (by kernel_rfl) (by kernel_rfl) (fun _ _ _ h => h) (yieldsIf_load_known (by kernel_rfl) 23 _ rfl (pb) (0) rfl (.agg kc) (LK.out)) hH ?_
  simp only [List.setIfInBounds_toArray, List.set_cons_zero, List.set_cons_succ]
  refine wpAnyH_take_at (i := 6) 11 (.agg sc) rfl rfl (by kernel_rfl) (by kernel_rfl) (by kernel_rfl) (fun _ _ _ h => h) (yieldsIf_load_known (by kernel_rfl) 23 _ rfl (tb) (0) rfl (.agg sc) (LS.out)) hH ?_
  simp only [List.setIfInBounds_toArray, List.set_cons_zero, List.set_cons_succ]
  refine wpAnyH_ready (rs := [4]) (by kernel_rfl) (by simp) ?_
  refine AllReadyH.cons rfl (fun K hK => ?_) AllReadyH.nil
  rw [if_pos (by rfl)]
  go_simp
  go_wp2_with (go_at_call 16; refine (HT1.out _).mono ?_; rintro e x2 ⟨rfl, kx2⟩)
  have X2 : Kept w2.heap.size w2.heap.size w2 x2 := X1.trans (kx2.mono X1.size (fun i hi _ => Nat.ne_of_lt (Nat.lt_of_lt_of_le hi X1.size)))
  refine hK.out _ _ (X2) (fun hH => ?_)
  clear hK K
  refine wpAnyH_ready (rs := [7]) (by kernel_rfl) (by simp) ?_
  refine AllReadyH.cons rfl (fun K hK => ?_) AllReadyH.nil
  rw [if_pos (by rfl)]
  go_simp
  go_wp2_with (go_at_call 17; refine (HT2.out _).mono ?_; rintro e x3 ⟨rfl, kx3⟩)
  have X3 : Kept w2.heap.size w2.heap.size w2 x3 := X2.trans (kx3.mono X2.size (fun i hi _ => Nat.ne_of_lt (Nat.lt_of_lt_of_le hi X2.size)))
  refine hK.out _ _ (X3) (fun hH => ?_)
  clear hK K
  refine wpAnyH_take_ex (i := 8) 13 rfl rfl (by kernel_rfl) (by kernel_rfl) (by kernel_rfl) (fun _ _ _ _ h => h) (by kernel_rfl) hH ?_
  apply Exists.intro
  apply And.intro
  · intro w9 _
    go_simp
    first | done | rfl
  simp only [List.setIfInBounds_toArray, List.set_cons_zero, List.set_cons_succ]
  refine wpAnyH_take_ex (i := 9) 14 rfl rfl (by kernel_rfl) (by kernel_rfl) (by kernel_rfl) (fun _ _ _ _ h => h) (by kernel_rfl) hH ?_
  apply Exists.intro
  apply And.intro
  · intro w9 _
    go_simp
    first | done | rfl
  simp only [List.setIfInBounds_toArray, List.set_cons_zero, List.set_cons_succ]
  refine wpAnyH_take_ex (i := 10) 4 rfl rfl (by kernel_rfl) (by kernel_rfl) (by kernel_rfl) (fun _ _ _ _ h => h) (by kernel_rfl) hH ?_
  apply Exists.intro
  apply And.intro
  · intro w9 _
    go_simp
    first | done | rfl
  simp only [List.setIfInBounds_toArray, List.set_cons_zero, List.set_cons_succ]
  refine wpAnyH_done (by kernel_rfl) ?_ _
  refine NoPanic.normal ?_
  go_wp2
  go_ret
  exact ⟨rfl, KW.out.onto X3⟩

end Go.Proofs.YtdfbmijbmlainaaDoor
