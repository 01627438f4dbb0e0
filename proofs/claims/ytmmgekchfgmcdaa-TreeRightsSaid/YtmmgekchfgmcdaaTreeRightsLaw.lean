/-
  The law TreeRights.
-/
import Derived.Test.YtmmgekchfgmcdaaTreeAwake
import Derived.Test.YtmmgekchfgmcdaaTreeFew
import Derived.Test.YtmmgekchfgmcdaaTreeRefRight

namespace Go.Proofs.Ytmmgekchfgmcdaa
open Go.RowKit Go.Lib

theorem few_sizes {L : List Lf} {P : List Pr} (h : Tt.few L P = true) : L.length ≤ 1000 ∧ P.length ≤ 1000 ∧ ∀ p ∈ P, p.loose.length ≤ 1000 := by
  simp only [Tt.few, Tt.fewp, Bool.and_eq_true, decide_eq_true_eq, List.all_eq_true] at h
  exact ⟨by omega, by omega, fun p hp => Nat.le_trans (h.2.2 p hp) (by decide)⟩
set_option maxRecDepth 100000 in
set_option maxHeartbeats 6400000 in
theorem treerights_walk (lv pv : Value) (L : List Lf) (P : List Pr) (w : World) (hL : Lvs w lv L) (hP : Pts w pv P) :
    Calls Try.prog 4 #[.agg #[lv, pv]] w fun e w' => e = .returned (.bool true) ∧ Kept w.heap.size w.heap.size w w' := by
  have ka := (Kept.refl w.heap.size w.heap.size w).alloc (Nat.le_refl _) (.cells #[lv, pv] 27)
  have ta := heap_new w (.cells #[lv, pv] 27)
  have hL1 := hL.kept ka
  have hP1 := hP.kept ka
  obtain ⟨lad, lc, rfl⟩ := hL.shape
  obtain ⟨pad, pc, rfl⟩ := hP.shape
  obtain ⟨fw, hfw⟩ : ∃ fw, fw = Tt.few L P := ⟨_, rfl⟩
  have hsz := fun h : fw = true => few_sizes (L := L) (P := P) (hfw ▸ h)
  obtain ⟨ln, hln⟩ : ∃ ln, ln = L.length := ⟨_, rfl⟩
  obtain ⟨pn, hpn⟩ : ∃ pn, pn = P.length := ⟨_, rfl⟩
  rw [← hln, ← hpn] at ka ta hL1 hP1 ⊢
  clear hln hpn
  go_enter Try.func4, Try.ntmps4
  go_upto_region 1 with fail
  generalize w.alloc (.cells #[.slice lad ln lc, .slice pad pn pc] 27) = w1 at ka ta hL1 hP1 ⊢
  obtain ⟨tb, htb⟩ : ∃ tb, tb = w.heap.size := ⟨_, rfl⟩
  rw [← htb] at ta ⊢
  have K1 := Lib.hid ka
  have T1 := Lib.hid ta
  have HLT := Lib.hid (fun (x : World) (k : Kept w1.heap.size w1.heap.size w1 x) => run_loadVar_row x tb 27 27 _ (0, 0) _ ((k.block tb (lt_of_block T1.out) (Nat.ne_of_lt (lt_of_block T1.out))).trans T1.out) Try.underlying27 rfl treeInfo)
  have HFW := Lib.hid (fun (x : World) (k : Kept w1.heap.size w1.heap.size w1 x) => few_calls8 _ _ L P x (hL1.kept k) (hP1.kept k))
  rw [← hfw] at HFW
  have HAW := Lib.hid (fun x => awake_calls8 x)
  have HRR := Lib.hid (fun (hf : fw = true) (x : World) (k : Kept w1.heap.size w1.heap.size w1 x) => right_calls8 _ _ L P x (hL1.kept k) (hP1.kept k) (hsz hf).1 (hsz hf).2.1 (hsz hf).2.2)
  have HRF := Lib.hid (fun (hf : fw = true) (x : World) (k : Kept w1.heap.size w1.heap.size w1 x) => refright_calls8 _ _ L P x (hL1.kept k) (hP1.kept k) (hsz hf).2.2)
  obtain ⟨rt, hrt⟩ : ∃ rt, rt = Tt.right L P := ⟨_, rfl⟩
  rw [← hrt] at HRR HRF
  clear hL hP hL1 hP1 ka ta htb hrt hsz hfw
  cases fw with
  | false =>
    have KD : Kept w1.heap.size w1.heap.size w1 w1.drew := (Kept.refl _ _ _).drew
    refine wp_region_noPanic ?_
    refine wp_region_held_drew (S := fun w' => Kept w1.heap.size w1.heap.size w1 w') (by kernel_rfl) ((Kept.refl _ _ _).drew) (fun hH => ?_)
    refine wpAnyH_take_at (i := 0) 3 (.agg #[.slice lad ln lc, .slice pad pn pc]) rfl rfl (by kernel_rfl) (by kernel_rfl) (by kernel_rfl) (fun _ _ _ h => h) (yieldsIf_load_known (by kernel_rfl) 27 _ rfl (tb) (0) rfl (.agg #[.slice lad ln lc, .slice pad pn pc]) (HLT.out)) hH ?_
    simp only [List.setIfInBounds_toArray, List.set_cons_zero, List.set_cons_succ]
    refine wpAnyH_ready (rs := [1]) (by kernel_rfl) (by simp) ?_
    refine AllReadyH.cons rfl (fun K hK => ?_) AllReadyH.nil
    rw [if_pos (by rfl)]
    go_simp
    go_wp2_with (go_at_call 14; refine (HFW.out _ KD).mono ?_; rintro e w2 ⟨rfl, kw2⟩)
    have KE : Kept w1.heap.size w1.heap.size w1 w2 := KD.trans (kw2.mono KD.size (fun i hi _ => Nat.ne_of_lt (Nat.lt_of_lt_of_le hi KD.size)))
    refine hK.out _ _ (KE) (fun hH => ?_)
    clear hK K
    refine wpAnyH_take_ex (i := 2) 5 rfl rfl (by kernel_rfl) (by kernel_rfl) (by kernel_rfl) (fun _ _ _ _ h => h) (by kernel_rfl) hH ?_
    apply Exists.intro
    apply And.intro
    · intro w9 _
      go_simp
      first | done | rfl
    simp only [List.setIfInBounds_toArray, List.set_cons_zero, List.set_cons_succ]
    refine wpAnyH_take_ex (i := 3) 6 rfl rfl (by kernel_rfl) (by kernel_rfl) (by kernel_rfl) (fun _ _ _ _ h => h) (by kernel_rfl) hH ?_
    apply Exists.intro
    apply And.intro
    · intro w9 _
      go_simp
      first | done | rfl
    simp only [List.setIfInBounds_toArray, List.set_cons_zero, List.set_cons_succ]
    refine wpAnyH_take_at (i := 4) 7 undef rfl rfl (by kernel_rfl) (by kernel_rfl) (by kernel_rfl) (fun _ _ _ h => h) (.inr ⟨by kernel_rfl, rfl⟩) hH ?_
    simp only [List.setIfInBounds_toArray, List.set_cons_zero, List.set_cons_succ]
    refine wpAnyH_take_at (i := 5) 8 undef rfl rfl (by kernel_rfl) (by kernel_rfl) (by kernel_rfl) (fun _ _ _ h => h) (.inr ⟨by kernel_rfl, rfl⟩) hH ?_
    simp only [List.setIfInBounds_toArray, List.set_cons_zero, List.set_cons_succ]
    refine wpAnyH_take_at (i := 6) 9 undef rfl rfl (by kernel_rfl) (by kernel_rfl) (by kernel_rfl) (fun _ _ _ h => h) (.inr ⟨by kernel_rfl, rfl⟩) hH ?_
    simp only [List.setIfInBounds_toArray, List.set_cons_zero, List.set_cons_succ]
    refine wpAnyH_take_at (i := 7) 10 undef rfl rfl (by kernel_rfl) (by kernel_rfl) (by kernel_rfl) (fun _ _ _ h => h) (.inr ⟨by kernel_rfl, rfl⟩) hH ?_
    simp only [List.setIfInBounds_toArray, List.set_cons_zero, List.set_cons_succ]
    refine wpAnyH_take_at (i := 8) 11 undef rfl rfl (by kernel_rfl) (by kernel_rfl) (by kernel_rfl) (fun _ _ _ h => h) (.inr ⟨by kernel_rfl, rfl⟩) hH ?_
    simp only [List.setIfInBounds_toArray, List.set_cons_zero, List.set_cons_succ]
    refine wpAnyH_take_at (i := 9) 12 undef rfl rfl (by kernel_rfl) (by kernel_rfl) (by kernel_rfl) (fun _ _ _ h => h) (.inr ⟨by kernel_rfl, rfl⟩) hH ?_
    simp only [List.setIfInBounds_toArray, List.set_cons_zero, List.set_cons_succ]
    refine wpAnyH_take_at (i := 10) 13 undef rfl rfl (by kernel_rfl) (by kernel_rfl) (by kernel_rfl) (fun _ _ _ h => h) (.inr ⟨by kernel_rfl, rfl⟩) hH ?_
    simp only [List.setIfInBounds_toArray, List.set_cons_zero, List.set_cons_succ]
    refine wpAnyH_take_at (i := 11) 14 undef rfl rfl (by kernel_rfl) (by kernel_rfl) (by kernel_rfl) (fun _ _ _ h => h) (.inr ⟨by kernel_rfl, rfl⟩) hH ?_
    simp only [List.setIfInBounds_toArray, List.set_cons_zero, List.set_cons_succ]
    refine wpAnyH_take_ex (i := 12) 15 rfl rfl (by kernel_rfl) (by kernel_rfl) (by kernel_rfl) (fun _ _ _ _ h => h) (by kernel_rfl) hH ?_
    apply Exists.intro
    apply And.intro
    · intro w9 _
      go_simp
      first | done | rfl
    simp only [List.setIfInBounds_toArray, List.set_cons_zero, List.set_cons_succ]
    refine wpAnyH_take_ex (i := 13) 2 rfl rfl (by kernel_rfl) (by kernel_rfl) (by kernel_rfl) (fun _ _ _ _ h => h) (by kernel_rfl) hH ?_
    apply Exists.intro
    apply And.intro
    · intro w9 _
      go_simp
      first | done | rfl
    simp only [List.setIfInBounds_toArray, List.set_cons_zero, List.set_cons_succ]
    refine wpAnyH_done (by kernel_rfl) ?_ _
    refine NoPanic.normal ?_
    go_wp2
    go_ret
    exact ⟨rfl, K1.out.next1 KE⟩
  | true =>
    have HR1 := Lib.hid (HRR.out rfl)
    have HR2 := Lib.hid (HRF.out rfl)
    clear HRR HRF
    have KD : Kept w1.heap.size w1.heap.size w1 w1.drew := (Kept.refl _ _ _).drew
    refine wp_region_noPanic ?_
    refine wp_region_held_drew (S := fun w' => Kept w1.heap.size w1.heap.size w1 w') (by kernel_rfl) ((Kept.refl _ _ _).drew) (fun hH => ?_)
    refine wpAnyH_take_at (i := 0) 3 (.agg #[.slice lad ln lc, .slice pad pn pc]) rfl rfl (by kernel_rfl) (by kernel_rfl) (by kernel_rfl) (fun _ _ _ h => h) (yieldsIf_load_known (by kernel_rfl) 27 _ rfl (tb) (0) rfl (.agg #[.slice lad ln lc, .slice pad pn pc]) (HLT.out)) hH ?_
    simp only [List.setIfInBounds_toArray, List.set_cons_zero, List.set_cons_succ]
    refine wpAnyH_ready (rs := [1]) (by kernel_rfl) (by simp) ?_
    refine AllReadyH.cons rfl (fun K hK => ?_) AllReadyH.nil
    rw [if_pos (by rfl)]
    go_simp
    go_wp2_with (go_at_call 14; refine (HFW.out _ KD).mono ?_; rintro e w2 ⟨rfl, kw2⟩)
    have KE : Kept w1.heap.size w1.heap.size w1 w2 := KD.trans (kw2.mono KD.size (fun i hi _ => Nat.ne_of_lt (Nat.lt_of_lt_of_le hi KD.size)))
    refine hK.out _ _ (KE) (fun hH => ?_)
    clear hK K
    refine wpAnyH_take_ex (i := 2) 5 rfl rfl (by kernel_rfl) (by kernel_rfl) (by kernel_rfl) (fun _ _ _ _ h => h) (by kernel_rfl) hH ?_
    apply Exists.intro
    apply And.intro
    · intro w9 _
      go_simp
      first | done | rfl
    simp only [List.setIfInBounds_toArray, List.set_cons_zero, List.set_cons_succ]
    refine wpAnyH_take_ex (i := 3) 6 rfl rfl (by kernel_rfl) (by kernel_rfl) (by kernel_rfl) (fun _ _ _ _ h => h) (by kernel_rfl) hH ?_
    apply Exists.intro
    apply And.intro
    · intro w9 _
      go_simp
      first | done | rfl
    simp only [List.setIfInBounds_toArray, List.set_cons_zero, List.set_cons_succ]
    refine wpAnyH_ready (rs := [4]) (by kernel_rfl) (by simp) ?_
    refine AllReadyH.cons rfl (fun K hK => ?_) AllReadyH.nil
    rw [if_pos (by rfl)]
    go_simp
    go_wp2_with (go_at_call 9; refine (HAW.out _).mono ?_; rintro e w3 ⟨rfl, kw3⟩)
    have KF : Kept w1.heap.size w1.heap.size w1 w3 := KE.trans (kw3.mono KE.size (fun i hi _ => Nat.ne_of_lt (Nat.lt_of_lt_of_le hi KE.size)))
    refine hK.out _ _ (KF) (fun hH => ?_)
    clear hK K
    refine wpAnyH_take_ex (i := 5) 8 rfl rfl (by kernel_rfl) (by kernel_rfl) (by kernel_rfl) (fun _ _ _ _ h => h) (by kernel_rfl) hH ?_
    apply Exists.intro
    apply And.intro
    · intro w9 _
      go_simp
      first | done | rfl
    simp only [List.setIfInBounds_toArray, List.set_cons_zero, List.set_cons_succ]
    refine wpAnyH_take_at (i := 6) 9 (.agg #[.slice lad ln lc, .slice pad pn pc]) rfl rfl (by kernel_rfl) (by kernel_rfl) (by kernel_rfl) (fun _ _ _ h => h) (yieldsIf_load_known (by kernel_rfl) 27 _ rfl (tb) (0) rfl (.agg #[.slice lad ln lc, .slice pad pn pc]) (HLT.out)) hH ?_
    simp only [List.setIfInBounds_toArray, List.set_cons_zero, List.set_cons_succ]
    refine wpAnyH_take_at (i := 8) 11 (.agg #[.slice lad ln lc, .slice pad pn pc]) rfl rfl (by kernel_rfl) (by kernel_rfl) (by kernel_rfl) (fun _ _ _ h => h) (yieldsIf_load_known (by kernel_rfl) 27 _ rfl (tb) (0) rfl (.agg #[.slice lad ln lc, .slice pad pn pc]) (HLT.out)) hH ?_
    simp only [List.setIfInBounds_toArray, List.set_cons_zero, List.set_cons_succ]
    refine wpAnyH_ready (rs := [7]) (by kernel_rfl) (by simp) ?_
    refine AllReadyH.cons rfl (fun K hK => ?_) AllReadyH.nil
    rw [if_pos (by rfl)]
    go_simp
    go_wp2_with (go_at_call 15; refine (HR1.out _ KF).mono ?_; rintro e w4 ⟨rfl, kw4⟩)
    have KG : Kept w1.heap.size w1.heap.size w1 w4 := KF.trans (kw4.mono KF.size (fun i hi _ => Nat.ne_of_lt (Nat.lt_of_lt_of_le hi KF.size)))
    refine hK.out _ _ (KG) (fun hH => ?_)
    clear hK K
    refine wpAnyH_ready (rs := [9]) (by kernel_rfl) (by simp) ?_
    refine AllReadyH.cons rfl (fun K hK => ?_) AllReadyH.nil
    rw [if_pos (by rfl)]
    go_simp
    go_wp2_with (go_at_call 16; refine (HR2.out _ KG).mono ?_; rintro e w5 ⟨rfl, kw5⟩)
    have KH : Kept w1.heap.size w1.heap.size w1 w5 := KG.trans (kw5.mono KG.size (fun i hi _ => Nat.ne_of_lt (Nat.lt_of_lt_of_le hi KG.size)))
    refine hK.out _ _ (KH) (fun hH => ?_)
    clear hK K
    refine wpAnyH_take_ex (i := 10) 13 rfl rfl (by kernel_rfl) (by kernel_rfl) (by kernel_rfl) (fun _ _ _ _ h => h) (by kernel_rfl) hH ?_
    apply Exists.intro
    apply And.intro
    · intro w9 _
      go_simp
      first | done | rfl
    simp only [List.setIfInBounds_toArray, List.set_cons_zero, List.set_cons_succ]
    refine wpAnyH_take_ex (i := 11) 14 rfl rfl (by kernel_rfl) (by kernel_rfl) (by kernel_rfl) (fun _ _ _ _ h => h) (by kernel_rfl) hH ?_
    apply Exists.intro
    apply And.intro
    · intro w9 _
      go_simp
      first | done | rfl
    simp only [List.setIfInBounds_toArray, List.set_cons_zero, List.set_cons_succ]
    refine wpAnyH_take_ex (i := 12) 15 rfl rfl (by kernel_rfl) (by kernel_rfl) (by kernel_rfl) (fun _ _ _ _ h => h) (by kernel_rfl) hH ?_
    apply Exists.intro
    apply And.intro
    · intro w9 _
      go_simp
      first | done | rfl
    simp only [List.setIfInBounds_toArray, List.set_cons_zero, List.set_cons_succ]
    refine wpAnyH_take_ex (i := 13) 2 rfl rfl (by kernel_rfl) (by kernel_rfl) (by kernel_rfl) (fun _ _ _ _ h => h) (by kernel_rfl) hH ?_
    apply Exists.intro
    apply And.intro
    · intro w9 _
      go_simp
      first | done | rfl
    simp only [List.setIfInBounds_toArray, List.set_cons_zero, List.set_cons_succ]
    refine wpAnyH_done (by kernel_rfl) ?_ _
    refine NoPanic.normal ?_
    cases rt <;> (go_wp2; go_ret; exact ⟨rfl, K1.out.next1 KH⟩)

end Go.Proofs.Ytmmgekchfgmcdaa
