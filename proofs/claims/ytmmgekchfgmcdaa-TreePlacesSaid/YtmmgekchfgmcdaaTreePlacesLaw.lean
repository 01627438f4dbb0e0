/-
  The law TreePlaces.
-/
import Derived.Test.YtmmgekchfgmcdaaTreeAwake
import Derived.Test.YtmmgekchfgmcdaaTreeNames
import Derived.Test.YtmmgekchfgmcdaaTreeRefNames
import Derived.Test.YtmmgekchfgmcdaaTreeFew
import Derived.Test.YtmmgekchfgmcdaaTreeRefRight

namespace Go.Proofs.Ytmmgekchfgmcdaa
open Go.RowKit Go.Lib

theorem few_sizes8 {L : List Lf} {P : List Pr} (h : Tt.few L P = true) : L.length ≤ 1000 ∧ P.length ≤ 1000 ∧ ∀ p ∈ P, p.loose.length ≤ 1000 := by
  simp only [Tt.few, Tt.fewp, Bool.and_eq_true, decide_eq_true_eq, List.all_eq_true] at h
  exact ⟨by omega, by omega, fun p hp => Nat.le_trans (h.2.2 p hp) (by decide)⟩
theorem Tt.place_same {L : List Lf} {P : List Pr} (h : Tt.right L P = true) (y : Int) : Tt.place L P y = Tt.rplace L y := by
  have h2 := h
  simp only [Tt.right, Bool.and_eq_true] at h2
  have hnm := Tt.leavesOk_names L [] h2.2.2.2.1
  unfold Tt.place Tt.rplace
  rw [h, Bool.and_true]
  by_cases h1 : 1 ≤ y
  · by_cases h3 : y ≤ 64
    · rw [decide_eq_true h1, decide_eq_true h3, Bool.and_self, if_pos rfl, if_pos (by omega)]
    · rw [decide_eq_false h3, Bool.and_false, if_neg (by decide), if_pos (by omega)]
      exact (Tt.index_none fun j hj e => by
        have := (hnm.2 y (Tt.names_mem.2 ⟨by omega, _, List.getElem_mem hj, e⟩)).2.1
        omega).symm
  · rw [decide_eq_false h1, Bool.false_and, if_neg (by decide), if_neg (by omega)]
set_option maxRecDepth 100000 in
set_option maxHeartbeats 6400000 in
theorem treeplaces_walk (lv pv : Value) (L : List Lf) (P : List Pr) (y : Int) (w : World) (hL : Lvs w lv L) (hP : Pts w pv P) :
    Calls Try.prog 8 #[.agg #[lv, pv], .int .i64 y] w fun e w' => e = .returned (.bool true) ∧ Kept w.heap.size w.heap.size w w' := by
  have ka := (Kept.refl w.heap.size w.heap.size w).alloc (Nat.le_refl _) (.cells #[lv, pv] 27)
  have ta := heap_new w (.cells #[lv, pv] 27)
  have hL1 := hL.kept ka
  have hP1 := hP.kept ka
  obtain ⟨lad, lc, rfl⟩ := hL.shape
  obtain ⟨pad, pc, rfl⟩ := hP.shape
  obtain ⟨fw, hfw⟩ : ∃ fw, fw = Tt.few L P := ⟨_, rfl⟩
  obtain ⟨rt, hrt⟩ : ∃ rt, rt = Tt.right L P := ⟨_, rfl⟩
  have hsz := fun h : fw = true => few_sizes8 (L := L) (P := P) (hfw ▸ h)
  have hps := fun h : rt = true => Tt.place_same (L := L) (P := P) (hrt ▸ h) y
  have hns := fun h : rt = true => Tt.names_same (L := L) (P := P) (hrt ▸ h)
  have HSL := Lib.hid (show (sortI (Tt.names L)).length ≤ L.length by rw [sortI_length]; exact Tt.names_length L)
  obtain ⟨ln, hln⟩ : ∃ ln, ln = L.length := ⟨_, rfl⟩
  obtain ⟨pn, hpn⟩ : ∃ pn, pn = P.length := ⟨_, rfl⟩
  rw [← hln, ← hpn] at ka ta hL1 hP1 ⊢
  clear hln hpn
  go_enter Try.func8, Try.ntmps8
  go_upto_region 1 with fail
  generalize w.alloc (.cells #[.slice lad ln lc, .slice pad pn pc] 27) = w1 at ka ta hL1 hP1 ⊢
  obtain ⟨tb, htb⟩ : ∃ tb, tb = w.heap.size := ⟨_, rfl⟩
  rw [← htb] at ta ⊢
  have K1 := Lib.hid ka
  have T1 := Lib.hid ta
  have HLT := Lib.hid (fun (x : World) (k : Kept w1.heap.size w1.heap.size w1 x) => run_loadVar_row x tb 27 27 _ (0, 0) _ ((k.block tb (lt_of_block T1.out) (Nat.ne_of_lt (lt_of_block T1.out))).trans T1.out) Try.underlying27 rfl treeInfo)
  have HFW := Lib.hid (fun (x : World) (k : Kept w1.heap.size w1.heap.size w1 x) => few_calls8 _ _ L P x (hL1.kept k) (hP1.kept k))
  rw [← hfw] at HFW
  have HAW := Lib.hid (fun x => awake_calls8 x)
  have HRF := Lib.hid (fun (hf : fw = true) (x : World) (k : Kept w1.heap.size w1.heap.size w1 x) => refright_calls8 _ _ L P x (hL1.kept k) (hP1.kept k) (hsz hf).2.2)
  rw [← hrt] at HRF
  have HPL := Lib.hid (fun (hf : fw = true) (hr : rt = true) (x : World) (k : Kept w1.heap.size w1.heap.size w1 x) => (hps hr) ▸ place_calls8 _ _ L P y x (hL1.kept k) (hP1.kept k) (hsz hf).1 (hsz hf).2.1 (hsz hf).2.2)
  have HRP := Lib.hid (fun (hf : fw = true) (x : World) (k : Kept w1.heap.size w1.heap.size w1 x) => refplace_calls _ _ L y x (hL1.kept k) (hsz hf).1 ⟨pad, pn, pc, rfl⟩)
  have HNM := Lib.hid (fun (hf : fw = true) (hr : rt = true) (x : World) (k : Kept w1.heap.size w1.heap.size w1 x) => names_calls _ _ L P x (hL1.kept k) (hP1.kept k) (hsz hf).1 (hsz hf).2.1 (hsz hf).2.2 (hrt ▸ hr))
  have HRN := Lib.hid (fun (hf : fw = true) (x : World) (k : Kept w1.heap.size w1.heap.size w1 x) => refnames_calls _ _ L x (hL1.kept k) (hsz hf).1 ⟨pad, pn, pc, rfl⟩)
  have HNS := Lib.hid hns
  have HN66 := Lib.hid (fun (hr : rt = true) => show (sortI (Tt.names L)).length ≤ 66 by
    rw [hns hr]
    exact Nat.le_trans (Tt.rnamesTo_length L 64) (by decide))
  obtain ⟨q, hq⟩ : ∃ q, q = Tt.rplace L y := ⟨_, rfl⟩
  rw [← hq] at HPL HRP
  clear hL hP hL1 hP1 ka ta htb hsz hfw hps hns hrt hq
  cases fw with
  | false =>
    refine wp_region_lit ?_
    refine @wpList_load_known _ _ _ _ _ _ _ ?hw38002 27 (.tmp 2) rfl (tb) (0) rfl (.agg #[.slice lad ln lc, .slice pad pn pc]) (HLT.out w1 (Kept.refl w1.heap.size w1.heap.size w1)) ?_
    case hw38002 => kernel_rfl
    simp only [Act.put, List.setIfInBounds_toArray, List.set_cons_zero, List.set_cons_succ]
    refine @BigFrame.wpList_want _ _ _ _ _ _ _ ?hw38001 ?_
    case hw38001 => kernel_rfl
    intro K hK
    go_simp
    go_at_call 14
    refine (HFW.out w1 (Kept.refl w1.heap.size w1.heap.size w1)).mono ?_
    rintro e w2 ⟨rfl, k2⟩
    have K2 := Lib.hid k2
    clear k2
    refine hK _ _ ?_
    clear hK K
    refine @BigFrame.wpList_want _ _ _ _ _ _ _ ?hw38003 ?_
    case hw38003 => kernel_rfl
    intro K hK
    go_simp
    refine hK _ _ ?_
    clear hK K
    refine @BigFrame.wpList_want _ _ _ _ _ _ _ ?hw38004 ?_
    case hw38004 => kernel_rfl
    intro K hK
    go_simp
    refine hK _ _ ?_
    clear hK K
    refine @wpList_skip _ _ _ _ _ _ _ ?hw38005 ?_
    case hw38005 => kernel_rfl
    simp only [Act.put, List.setIfInBounds_toArray, List.set_cons_zero, List.set_cons_succ]
    refine @wpList_skip _ _ _ _ _ _ _ ?hw38006 ?_
    case hw38006 => kernel_rfl
    simp only [Act.put, List.setIfInBounds_toArray, List.set_cons_zero, List.set_cons_succ]
    refine @wpList_skip _ _ _ _ _ _ _ ?hw38007 ?_
    case hw38007 => kernel_rfl
    simp only [Act.put, List.setIfInBounds_toArray, List.set_cons_zero, List.set_cons_succ]
    refine @BigFrame.wpList_want _ _ _ _ _ _ _ ?hw38008 ?_
    case hw38008 => kernel_rfl
    intro K hK
    go_simp
    refine hK _ _ ?_
    clear hK K
    go_upto_region 2 with fail
    refine wp_region_lit ?_
    refine @BigFrame.wpList_want _ _ _ _ _ _ _ ?hw38009 ?_
    case hw38009 => kernel_rfl
    intro K hK
    go_simp
    go_at_call 9
    refine (HAW.out _).mono ?_
    rintro e w3 ⟨rfl, k3⟩
    have K3 := Lib.hid (K2.out.next1 k3)
    clear k3
    refine hK _ _ ?_
    clear hK K
    refine @BigFrame.wpList_want _ _ _ _ _ _ _ ?hw38010 ?_
    case hw38010 => kernel_rfl
    intro K hK
    go_simp
    refine hK _ _ ?_
    clear hK K
    go_wp2
    go_ret
    exact ⟨rfl, K1.out.next1 K3.out⟩
  | true =>
    have HR2 := Lib.hid (HRF.out rfl)
    clear HRF
    cases rt with
    | false =>
      refine wp_region_lit ?_
      refine @wpList_load_known _ _ _ _ _ _ _ ?hw38013 27 (.tmp 2) rfl (tb) (0) rfl (.agg #[.slice lad ln lc, .slice pad pn pc]) (HLT.out w1 (Kept.refl w1.heap.size w1.heap.size w1)) ?_
      case hw38013 => kernel_rfl
      simp only [Act.put, List.setIfInBounds_toArray, List.set_cons_zero, List.set_cons_succ]
      refine @BigFrame.wpList_want _ _ _ _ _ _ _ ?hw38011 ?_
      case hw38011 => kernel_rfl
      intro K hK
      go_simp
      go_at_call 14
      refine (HFW.out w1 (Kept.refl w1.heap.size w1.heap.size w1)).mono ?_
      rintro e w2 ⟨rfl, k2⟩
      have K2 := Lib.hid k2
      clear k2
      refine hK _ _ ?_
      clear hK K
      refine @BigFrame.wpList_want _ _ _ _ _ _ _ ?hw38014 ?_
      case hw38014 => kernel_rfl
      intro K hK
      go_simp
      refine hK _ _ ?_
      clear hK K
      refine @BigFrame.wpList_want _ _ _ _ _ _ _ ?hw38015 ?_
      case hw38015 => kernel_rfl
      intro K hK
      go_simp
      refine hK _ _ ?_
      clear hK K
      refine @wpList_load_known _ _ _ _ _ _ _ ?hw38016 27 (.tmp 2) rfl (tb) (0) rfl (.agg #[.slice lad ln lc, .slice pad pn pc]) (HLT.out w2 K2.out) ?_
      case hw38016 => kernel_rfl
      simp only [Act.put, List.setIfInBounds_toArray, List.set_cons_zero, List.set_cons_succ]
      refine @BigFrame.wpList_want _ _ _ _ _ _ _ ?hw38012 ?_
      case hw38012 => kernel_rfl
      intro K hK
      go_simp
      go_at_call 16
      refine (HR2.out w2 K2.out).mono ?_
      rintro e w3 ⟨rfl, k3⟩
      have K3 := Lib.hid (K2.out.next1 k3)
      clear k3
      refine hK _ _ ?_
      clear hK K
      refine @BigFrame.wpList_want _ _ _ _ _ _ _ ?hw38017 ?_
      case hw38017 => kernel_rfl
      intro K hK
      go_simp
      refine hK _ _ ?_
      clear hK K
      refine @BigFrame.wpList_want _ _ _ _ _ _ _ ?hw38018 ?_
      case hw38018 => kernel_rfl
      intro K hK
      go_simp
      refine hK _ _ ?_
      clear hK K
      go_upto_region 2 with fail
      refine wp_region_lit ?_
      refine @BigFrame.wpList_want _ _ _ _ _ _ _ ?hw38019 ?_
      case hw38019 => kernel_rfl
      intro K hK
      go_simp
      go_at_call 9
      refine (HAW.out _).mono ?_
      rintro e w4 ⟨rfl, k4⟩
      have K4 := Lib.hid (K3.out.next1 k4)
      clear k4
      refine hK _ _ ?_
      clear hK K
      refine @BigFrame.wpList_want _ _ _ _ _ _ _ ?hw38020 ?_
      case hw38020 => kernel_rfl
      intro K hK
      go_simp
      refine hK _ _ ?_
      clear hK K
      go_wp2
      go_ret
      exact ⟨rfl, K1.out.next1 K4.out⟩
    | true =>
      have HP2 := Lib.hid (HPL.out rfl rfl)
      have HQ2 := Lib.hid (HRP.out rfl)
      have HN2 := Lib.hid (HNM.out rfl rfl)
      have HM2 := Lib.hid (HRN.out rfl)
      clear HPL HRP HNM HRN
      refine wp_region_lit ?_
      refine @wpList_load_known _ _ _ _ _ _ _ ?hw38023 27 (.tmp 2) rfl (tb) (0) rfl (.agg #[.slice lad ln lc, .slice pad pn pc]) (HLT.out w1 (Kept.refl w1.heap.size w1.heap.size w1)) ?_
      case hw38023 => kernel_rfl
      simp only [Act.put, List.setIfInBounds_toArray, List.set_cons_zero, List.set_cons_succ]
      refine @BigFrame.wpList_want _ _ _ _ _ _ _ ?hw38021 ?_
      case hw38021 => kernel_rfl
      intro K hK
      go_simp
      go_at_call 14
      refine (HFW.out w1 (Kept.refl w1.heap.size w1.heap.size w1)).mono ?_
      rintro e w2 ⟨rfl, k2⟩
      have K2 := Lib.hid k2
      clear k2
      refine hK _ _ ?_
      clear hK K
      refine @BigFrame.wpList_want _ _ _ _ _ _ _ ?hw38024 ?_
      case hw38024 => kernel_rfl
      intro K hK
      go_simp
      refine hK _ _ ?_
      clear hK K
      refine @BigFrame.wpList_want _ _ _ _ _ _ _ ?hw38025 ?_
      case hw38025 => kernel_rfl
      intro K hK
      go_simp
      refine hK _ _ ?_
      clear hK K
      refine @wpList_load_known _ _ _ _ _ _ _ ?hw38026 27 (.tmp 2) rfl (tb) (0) rfl (.agg #[.slice lad ln lc, .slice pad pn pc]) (HLT.out w2 K2.out) ?_
      case hw38026 => kernel_rfl
      simp only [Act.put, List.setIfInBounds_toArray, List.set_cons_zero, List.set_cons_succ]
      refine @BigFrame.wpList_want _ _ _ _ _ _ _ ?hw38022 ?_
      case hw38022 => kernel_rfl
      intro K hK
      go_simp
      go_at_call 16
      refine (HR2.out w2 K2.out).mono ?_
      rintro e w3 ⟨rfl, k3⟩
      have K3 := Lib.hid (K2.out.next1 k3)
      clear k3
      refine hK _ _ ?_
      clear hK K
      refine @BigFrame.wpList_want _ _ _ _ _ _ _ ?hw38027 ?_
      case hw38027 => kernel_rfl
      intro K hK
      go_simp
      refine hK _ _ ?_
      clear hK K
      refine @BigFrame.wpList_want _ _ _ _ _ _ _ ?hw38028 ?_
      case hw38028 => kernel_rfl
      intro K hK
      go_simp
      refine hK _ _ ?_
      clear hK K
      go_upto_region 3 with fail
      have KD : Kept w1.heap.size w1.heap.size w1 w3.drew := K3.out.drew
      refine wp_region_noPanic ?_
      refine wp_region_held_drew (S := fun w' => Kept w1.heap.size w1.heap.size w1 w') (by kernel_rfl) (K3.out.drew) (fun hH => ?_)
      refine wpAnyH_ready (rs := [0]) (by kernel_rfl) (by simp) ?_
      refine AllReadyH.cons rfl (fun K hK => ?_) AllReadyH.nil
      rw [if_pos (by rfl)]
      go_simp
      go_wp2_with (go_at_call 9; refine (HAW.out _).mono ?_; rintro e w4 ⟨rfl, kw4⟩)
      have KE : Kept w1.heap.size w1.heap.size w1 w4 := KD.next1 kw4
      refine hK.out _ _ (KE) (fun hH => ?_)
      clear hK K
      refine wpAnyH_take_ex (i := 1) 15 rfl rfl (by kernel_rfl) (by kernel_rfl) (by kernel_rfl) (fun _ _ _ _ h => h) (by kernel_rfl) hH ?_
      apply Exists.intro
      apply And.intro
      · intro w9 _
        go_simp
        first | done | rfl
      simp only [List.setIfInBounds_toArray, List.set_cons_zero, List.set_cons_succ]
      refine wpAnyH_take_at (i := 2) 16 (.agg #[.slice lad ln lc, .slice pad pn pc]) rfl rfl (by kernel_rfl) (by kernel_rfl) (by kernel_rfl) (fun _ _ _ h => h) (yieldsIf_load_known (by kernel_rfl) 27 _ rfl (tb) (0) rfl (.agg #[.slice lad ln lc, .slice pad pn pc]) (HLT.out)) hH ?_
      simp only [List.setIfInBounds_toArray, List.set_cons_zero, List.set_cons_succ]
      refine wpAnyH_take_ex (i := 3) 17 rfl rfl (by kernel_rfl) (by kernel_rfl) (by kernel_rfl) (fun _ _ _ _ h => h) (by kernel_rfl) hH ?_
      apply Exists.intro
      apply And.intro
      · intro w9 _
        go_simp
        first | done | rfl
      simp only [List.setIfInBounds_toArray, List.set_cons_zero, List.set_cons_succ]
      refine wpAnyH_take_at (i := 5) 19 (.agg #[.slice lad ln lc, .slice pad pn pc]) rfl rfl (by kernel_rfl) (by kernel_rfl) (by kernel_rfl) (fun _ _ _ h => h) (yieldsIf_load_known (by kernel_rfl) 27 _ rfl (tb) (0) rfl (.agg #[.slice lad ln lc, .slice pad pn pc]) (HLT.out)) hH ?_
      simp only [List.setIfInBounds_toArray, List.set_cons_zero, List.set_cons_succ]
      refine wpAnyH_take_ex (i := 6) 20 rfl rfl (by kernel_rfl) (by kernel_rfl) (by kernel_rfl) (fun _ _ _ _ h => h) (by kernel_rfl) hH ?_
      apply Exists.intro
      apply And.intro
      · intro w9 _
        go_simp
        first | done | rfl
      simp only [List.setIfInBounds_toArray, List.set_cons_zero, List.set_cons_succ]
      refine wpAnyH_ready (rs := [4]) (by kernel_rfl) (by simp) ?_
      refine AllReadyH.cons rfl (fun K hK => ?_) AllReadyH.nil
      rw [if_pos (by rfl)]
      go_simp
      go_wp2_with (go_at_call 24; refine (HP2.out _ KE).mono ?_; rintro e w5 ⟨rfl, kw5⟩)
      have KF : Kept w1.heap.size w1.heap.size w1 w5 := KE.next1 kw5
      refine hK.out _ _ (KF) (fun hH => ?_)
      clear hK K
      refine wpAnyH_ready (rs := [7]) (by kernel_rfl) (by simp) ?_
      refine AllReadyH.cons rfl (fun K hK => ?_) AllReadyH.nil
      rw [if_pos (by rfl)]
      go_simp
      go_wp2_with (go_at_call 25; refine (HQ2.out _ KF).mono ?_; rintro e w6 ⟨rfl, kw6⟩)
      have KG : Kept w1.heap.size w1.heap.size w1 w6 := KF.next1 kw6
      refine hK.out _ _ (KG) (fun hH => ?_)
      clear hK K
      refine wpAnyH_take_ex (i := 8) 22 rfl rfl (by kernel_rfl) (by kernel_rfl) (by kernel_rfl) (fun _ _ _ _ h => h) (by kernel_rfl) hH ?_
      apply Exists.intro
      apply And.intro
      · intro w9 _
        go_simp
        first | done | rfl
      simp only [List.setIfInBounds_toArray, List.set_cons_zero, List.set_cons_succ]
      refine wpAnyH_take_ex (i := 9) 23 rfl rfl (by kernel_rfl) (by kernel_rfl) (by kernel_rfl) (fun _ _ _ _ h => h) (by kernel_rfl) hH ?_
      apply Exists.intro
      apply And.intro
      · intro w9 _
        go_simp
        first | done | rfl
      simp only [List.setIfInBounds_toArray, List.set_cons_zero, List.set_cons_succ]
      refine wpAnyH_take_ex (i := 10) 24 rfl rfl (by kernel_rfl) (by kernel_rfl) (by kernel_rfl) (fun _ _ _ _ h => h) (by kernel_rfl) hH ?_
      apply Exists.intro
      apply And.intro
      · intro w9 _
        go_simp
        first | done | rfl
      simp only [List.setIfInBounds_toArray, List.set_cons_zero, List.set_cons_succ]
      refine wpAnyH_take_at (i := 11) 25 (.agg #[.slice lad ln lc, .slice pad pn pc]) rfl rfl (by kernel_rfl) (by kernel_rfl) (by kernel_rfl) (fun _ _ _ h => h) (yieldsIf_load_known (by kernel_rfl) 27 _ rfl (tb) (0) rfl (.agg #[.slice lad ln lc, .slice pad pn pc]) (HLT.out)) hH ?_
      simp only [List.setIfInBounds_toArray, List.set_cons_zero, List.set_cons_succ]
      refine wpAnyH_take_at (i := 13) 27 (.agg #[.slice lad ln lc, .slice pad pn pc]) rfl rfl (by kernel_rfl) (by kernel_rfl) (by kernel_rfl) (fun _ _ _ h => h) (yieldsIf_load_known (by kernel_rfl) 27 _ rfl (tb) (0) rfl (.agg #[.slice lad ln lc, .slice pad pn pc]) (HLT.out)) hH ?_
      simp only [List.setIfInBounds_toArray, List.set_cons_zero, List.set_cons_succ]
      refine wpAnyH_ready (rs := [12]) (by kernel_rfl) (by simp) ?_
      refine AllReadyH.cons rfl (fun K hK => ?_) AllReadyH.nil
      rw [if_pos (by rfl)]
      go_simp
      go_wp2_with (go_at_call 27; refine (HN2.out _ KG).mono ?_; rintro e w7 ⟨v1, rfl, i1, kw7⟩)
      have KH : Kept w1.heap.size w1.heap.size w1 w7 := KG.next1 kw7
      obtain ⟨v1a, v1c, hv1⟩ := (ints_nums i1).shape
      subst hv1
      obtain ⟨v1n, hv1n⟩ : ∃ n, n = (sortI (Tt.names L)).length := ⟨_, rfl⟩
      rw [← hv1n] at i1 ⊢
      have I1 := Lib.hid i1
      clear i1 hv1n
      refine hK.out _ _ (KH) (fun hH => ?_)
      clear hK K
      refine wpAnyH_ready (rs := [14]) (by kernel_rfl) (by simp) ?_
      refine AllReadyH.cons rfl (fun K hK => ?_) AllReadyH.nil
      rw [if_pos (by rfl)]
      go_simp
      go_wp2_with (go_at_call 28; refine (HM2.out _ KH).mono ?_; rintro e w8 ⟨v2, rfl, i2, kw8⟩)
      have KI : Kept w1.heap.size w1.heap.size w1 w8 := KH.next1 kw8
      obtain ⟨v2a, v2c, hv2⟩ := (ints_nums i2).shape
      subst hv2
      obtain ⟨v2n, hv2n⟩ : ∃ n, n = (Tt.rnames L).length := ⟨_, rfl⟩
      rw [← hv2n] at i2 ⊢
      have I2 := Lib.hid i2
      have I3 := Lib.hid (I1.out.kept kw8)
      have HSM := Lib.hid (same_calls _ _ _ _ _ _ w8 I3.out I2.out (HN66.out (by trivial)))
      rw [show (sortI (Tt.names L) == Tt.rnames L) = true by rw [beq_iff_eq]; exact HNS.out (by trivial)] at HSM
      clear i2 hv2n
      refine hK.out _ _ (KI) (fun hH => ?_)
      clear hK K
      refine wpAnyH_ready (rs := [15]) (by kernel_rfl) (by simp) ?_
      refine AllReadyH.cons rfl (fun K hK => ?_) AllReadyH.nil
      rw [if_pos (by rfl)]
      go_simp
      go_wp2_with (go_at_call 26; refine (HSM.out).mono ?_; rintro e w9 ⟨rfl, kw9⟩)
      have KJ : Kept w1.heap.size w1.heap.size w1 w9 := KI.next1 kw9
      refine hK.out _ _ (KJ) (fun hH => ?_)
      clear hK K
      refine wpAnyH_take_ex (i := 16) 30 rfl rfl (by kernel_rfl) (by kernel_rfl) (by kernel_rfl) (fun _ _ _ _ h => h) (by kernel_rfl) hH ?_
      apply Exists.intro
      apply And.intro
      · intro w9 _
        go_simp
        first | done | rfl
      simp only [List.setIfInBounds_toArray, List.set_cons_zero, List.set_cons_succ]
      refine wpAnyH_take_ex (i := 17) 4 rfl rfl (by kernel_rfl) (by kernel_rfl) (by kernel_rfl) (fun _ _ _ _ h => h) (by kernel_rfl) hH ?_
      apply Exists.intro
      apply And.intro
      · intro w9 _
        go_simp
        first | done | rfl
      simp only [List.setIfInBounds_toArray, List.set_cons_zero, List.set_cons_succ]
      refine wpAnyH_done (by kernel_rfl) ?_ _
      refine NoPanic.normal ?_
      go_wp2
      go_ret
      exact ⟨rfl, K1.out.next1 KJ⟩

end Go.Proofs.Ytmmgekchfgmcdaa
