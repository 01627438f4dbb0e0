/-
  The law ChangeOrders.
-/
import Derived.Test.YtcjcomeakkjiiaaDoorID

namespace Go.Proofs.YtcjcomeakkjiiaaDoor
open Go.RowKit Go.Lib

set_option maxRecDepth 100000 in
set_option maxHeartbeats 6400000 in
theorem changeorders_walk (p q s : Cg) (hp : p.Ok) (hq : q.Ok) (hs : s.Ok) (w : World) (htab : Tab w) : Calls Tryd.prog 6 #[.agg p.cells.toArray, .agg q.cells.toArray, .agg s.cells.toArray] w fun e w' => e = .returned (.bool true) ∧ Kept w.heap.size w.heap.size w w' := by
  have HAW := Lib.hid (fun (x : World) (k : Kept w.heap.size w.heap.size w x) => change_awake x (htab.onto k))
  have HPQ := Lib.hid (fun x => less_calls10 p q hp hq x)
  have HRPQ := Lib.hid (fun x => refless_calls10 p q hp hq x)
  have HPP := Lib.hid (fun x => less_calls10 p p hp hp x)
  rw [Cm.less_irrefl] at HPP
  have HQP := Lib.hid (fun x => less_calls10 q p hq hp x)
  have HQS := Lib.hid (fun x => less_calls10 q s hq hs x)
  have HPS := Lib.hid (fun x => less_calls10 p s hp hs x)
  have HAS := Lib.hid (fun h : Cm.less p q = true => Cm.less_asymm p q h)
  have HTR := Lib.hid (fun (h : Cm.less p q = true) (g : Cm.less q s = true) => Cm.less_trans p q s h g)
  have HLP := Lib.hid (fun (x : World) (b : Nat) (h : x.heap[b]? = some (.cells p.cells.toArray 27 (0, 0))) => load_cg h hp)
  have HLQ := Lib.hid (fun (x : World) (b : Nat) (h : x.heap[b]? = some (.cells q.cells.toArray 27 (0, 0))) => load_cg h hq)
  have HLS := Lib.hid (fun (x : World) (b : Nat) (h : x.heap[b]? = some (.cells s.cells.toArray 27 (0, 0))) => load_cg h hs)
  obtain ⟨DP, hDP⟩ : ∃ D, D = p.cells.toArray := ⟨_, rfl⟩
  obtain ⟨DQ, hDQ⟩ : ∃ D, D = q.cells.toArray := ⟨_, rfl⟩
  obtain ⟨DS, hDS⟩ : ∃ D, D = s.cells.toArray := ⟨_, rfl⟩
  rw [← hDP] at HPQ HRPQ HPP HQP HPS HLP ⊢
  rw [← hDQ] at HPQ HRPQ HQP HQS HLQ ⊢
  rw [← hDS] at HQS HPS HLS ⊢
  clear hDP hDQ hDS hp hq hs htab
  go_enter Tryd.func6, Tryd.ntmps6
  go_upto_region 0 with fail
  refine wp_region_lit ?_
  refine @BigFrame.wpList_want _ _ _ _ _ _ _ ?hw76009 ?_
  case hw76009 => kernel_rfl
  intro K hK
  go_simp
  refine hK _ _ ?_
  clear hK K
  have knw1 : Kept w.heap.size w.heap.size w (w.alloc (.cells DP 27)) := (Kept.refl _ _ _).alloc (Nat.le_refl _) _
  have rnw1 := heap_new w (.cells DP 27)
  have Kw1 := knw1
  generalize w.alloc (.cells DP 27) = w1 at knw1 rnw1 Kw1  ⊢
  obtain ⟨bp, hbp⟩ : ∃ n, n = w.heap.size := ⟨_, rfl⟩
  rw [← hbp] at rnw1
  (try rw [← hbp])
  clear hbp knw1
  have rbp := rnw1
  clear rnw1
  refine @BigFrame.wpList_want _ _ _ _ _ _ _ ?hw76010 ?_
  case hw76010 => kernel_rfl
  intro K hK
  go_simp
  refine hK _ _ ?_
  clear hK K
  have knw2 : Kept w1.heap.size w1.heap.size w1 (w1.alloc (.cells DQ 27)) := (Kept.refl _ _ _).alloc (Nat.le_refl _) _
  have rnw2 := heap_new w1 (.cells DQ 27)
  have rbpw2 := row_kept rbp knw2
  have Kw2 := Kw1.onto knw2
  generalize w1.alloc (.cells DQ 27) = w2 at knw2 rnw2 Kw2 rbpw2 ⊢
  obtain ⟨bq, hbq⟩ : ∃ n, n = w1.heap.size := ⟨_, rfl⟩
  rw [← hbq] at rnw2
  (try rw [← hbq])
  clear hbq knw2
  clear rbp
  have rbp := rbpw2
  clear rbpw2
  have rbq := rnw2
  clear rnw2
  refine @BigFrame.wpList_want _ _ _ _ _ _ _ ?hw76011 ?_
  case hw76011 => kernel_rfl
  intro K hK
  go_simp
  refine hK _ _ ?_
  clear hK K
  have knw3 : Kept w2.heap.size w2.heap.size w2 (w2.alloc (.cells DS 27)) := (Kept.refl _ _ _).alloc (Nat.le_refl _) _
  have rnw3 := heap_new w2 (.cells DS 27)
  have rbpw3 := row_kept rbp knw3
  have rbqw3 := row_kept rbq knw3
  have Kw3 := Kw2.onto knw3
  generalize w2.alloc (.cells DS 27) = w3 at knw3 rnw3 Kw3 rbpw3 rbqw3 ⊢
  obtain ⟨bs, hbs⟩ : ∃ n, n = w2.heap.size := ⟨_, rfl⟩
  rw [← hbs] at rnw3
  (try rw [← hbs])
  clear hbs knw3
  clear rbp
  have rbp := rbpw3
  clear rbpw3
  clear rbq
  have rbq := rbqw3
  clear rbqw3
  have rbs := rnw3
  clear rnw3
  refine @BigFrame.wpList_want _ _ _ _ _ _ _ ?hw76012 ?_
  case hw76012 => kernel_rfl
  intro K hK
  go_simp
  refine hK _ _ ?_
  clear hK K
  have LP := Lib.hid (fun (x : World) (k : Kept w3.heap.size w3.heap.size w3 x) => HLP.out x bp (row_kept rbp k))
  have LQ := Lib.hid (fun (x : World) (k : Kept w3.heap.size w3.heap.size w3 x) => HLQ.out x bq (row_kept rbq k))
  have LS := Lib.hid (fun (x : World) (k : Kept w3.heap.size w3.heap.size w3 x) => HLS.out x bs (row_kept rbs k))
  have KW := Lib.hid Kw3
  have KD : Kept w3.heap.size w3.heap.size w3 w3.drew := (Kept.refl _ _ _).drew
  clear rbp rbq rbs Kw3 Kw1 Kw2 HLP HLQ HLS
  go_upto_region 1 with fail
  cases hpq : Cm.less p q
  · rw [hpq] at HPQ HRPQ
    clear HAS HTR HQP HQS HPS
    refine wp_region_noPanic ?_
    refine wp_region_held_drew (S := fun w' => Kept w3.heap.size w3.heap.size w3 w') (by kernel_rfl) ((Kept.refl _ _ _).drew) (fun hH => ?_)
    refine wpAnyH_take_at (i := 0) 7 (.agg DP) rfl rfl (by kernel_rfl) (by kernel_rfl) (by kernel_rfl) (fun _ _ _ h => h) (yieldsIf_load_known (by kernel_rfl) 27 _ rfl (bp) (0) rfl (.agg DP) (LP.out)) hH ?_
    simp only [List.setIfInBounds_toArray, List.set_cons_zero, List.set_cons_succ]
    refine wpAnyH_take_at (i := 1) 8 (.agg DQ) rfl rfl (by kernel_rfl) (by kernel_rfl) (by kernel_rfl) (fun _ _ _ h => h) (yieldsIf_load_known (by kernel_rfl) 27 _ rfl (bq) (0) rfl (.agg DQ) (LQ.out)) hH ?_
    simp only [List.setIfInBounds_toArray, List.set_cons_zero, List.set_cons_succ]
    refine wpAnyH_take_at (i := 3) 10 (.agg DP) rfl rfl (by kernel_rfl) (by kernel_rfl) (by kernel_rfl) (fun _ _ _ h => h) (yieldsIf_load_known (by kernel_rfl) 27 _ rfl (bp) (0) rfl (.agg DP) (LP.out)) hH ?_
    simp only [List.setIfInBounds_toArray, List.set_cons_zero, List.set_cons_succ]
    refine wpAnyH_take_at (i := 4) 11 (.agg DQ) rfl rfl (by kernel_rfl) (by kernel_rfl) (by kernel_rfl) (fun _ _ _ h => h) (yieldsIf_load_known (by kernel_rfl) 27 _ rfl (bq) (0) rfl (.agg DQ) (LQ.out)) hH ?_
    simp only [List.setIfInBounds_toArray, List.set_cons_zero, List.set_cons_succ]
    refine wpAnyH_ready (rs := [2]) (by kernel_rfl) (by simp) ?_
    refine AllReadyH.cons rfl (fun K hK => ?_) AllReadyH.nil
    rw [if_pos (by rfl)]
    go_simp
    go_wp2_with (go_at_call 11; refine (HPQ.out _).mono ?_; rintro e w4 ⟨rfl, kw4⟩)
    have K4 : Kept w3.heap.size w3.heap.size w3 w4 := KD.trans (kw4.mono KD.size (fun i hi _ => Nat.ne_of_lt (Nat.lt_of_lt_of_le hi KD.size)))
    refine hK.out _ _ (K4) (fun hH => ?_)
    clear hK K
    refine wpAnyH_ready (rs := [5]) (by kernel_rfl) (by simp) ?_
    refine AllReadyH.cons rfl (fun K hK => ?_) AllReadyH.nil
    rw [if_pos (by rfl)]
    go_simp
    go_wp2_with (go_at_call 12; refine (HRPQ.out _).mono ?_; rintro e w5 ⟨rfl, kw5⟩)
    have K5 : Kept w3.heap.size w3.heap.size w3 w5 := K4.trans (kw5.mono K4.size (fun i hi _ => Nat.ne_of_lt (Nat.lt_of_lt_of_le hi K4.size)))
    refine hK.out _ _ (K5) (fun hH => ?_)
    clear hK K
    refine wpAnyH_take_ex (i := 6) 13 rfl rfl (by kernel_rfl) (by kernel_rfl) (by kernel_rfl) (fun _ _ _ _ h => h) (by kernel_rfl) hH ?_
    apply Exists.intro
    apply And.intro
    · intro w9 _
      go_simp
      first | done | rfl
    simp only [List.setIfInBounds_toArray, List.set_cons_zero, List.set_cons_succ]
    refine wpAnyH_take_ex (i := 7) 14 rfl rfl (by kernel_rfl) (by kernel_rfl) (by kernel_rfl) (fun _ _ _ _ h => h) (by kernel_rfl) hH ?_
    apply Exists.intro
    apply And.intro
    · intro w9 _
      go_simp
      first | done | rfl
    simp only [List.setIfInBounds_toArray, List.set_cons_zero, List.set_cons_succ]
    refine wpAnyH_take_at (i := 8) 15 (.agg DP) rfl rfl (by kernel_rfl) (by kernel_rfl) (by kernel_rfl) (fun _ _ _ h => h) (yieldsIf_load_known (by kernel_rfl) 27 _ rfl (bp) (0) rfl (.agg DP) (LP.out)) hH ?_
    simp only [List.setIfInBounds_toArray, List.set_cons_zero, List.set_cons_succ]
    refine wpAnyH_take_at (i := 9) 16 (.agg DP) rfl rfl (by kernel_rfl) (by kernel_rfl) (by kernel_rfl) (fun _ _ _ h => h) (yieldsIf_load_known (by kernel_rfl) 27 _ rfl (bp) (0) rfl (.agg DP) (LP.out)) hH ?_
    simp only [List.setIfInBounds_toArray, List.set_cons_zero, List.set_cons_succ]
    refine wpAnyH_ready (rs := [10]) (by kernel_rfl) (by simp) ?_
    refine AllReadyH.cons rfl (fun K hK => ?_) AllReadyH.nil
    rw [if_pos (by rfl)]
    go_simp
    go_wp2_with (go_at_call 11; refine (HPP.out _).mono ?_; rintro e w6 ⟨rfl, kw6⟩)
    have K6 : Kept w3.heap.size w3.heap.size w3 w6 := K5.trans (kw6.mono K5.size (fun i hi _ => Nat.ne_of_lt (Nat.lt_of_lt_of_le hi K5.size)))
    refine hK.out _ _ (K6) (fun hH => ?_)
    clear hK K
    refine wpAnyH_take_ex (i := 11) 18 rfl rfl (by kernel_rfl) (by kernel_rfl) (by kernel_rfl) (fun _ _ _ _ h => h) (by kernel_rfl) hH ?_
    apply Exists.intro
    apply And.intro
    · intro w9 _
      go_simp
      first | done | rfl
    simp only [List.setIfInBounds_toArray, List.set_cons_zero, List.set_cons_succ]
    refine wpAnyH_take_ex (i := 12) 19 rfl rfl (by kernel_rfl) (by kernel_rfl) (by kernel_rfl) (fun _ _ _ _ h => h) (by kernel_rfl) hH ?_
    apply Exists.intro
    apply And.intro
    · intro w9 _
      go_simp
      first | done | rfl
    simp only [List.setIfInBounds_toArray, List.set_cons_zero, List.set_cons_succ]
    refine wpAnyH_take_at (i := 13) 20 (.agg DP) rfl rfl (by kernel_rfl) (by kernel_rfl) (by kernel_rfl) (fun _ _ _ h => h) (yieldsIf_load_known (by kernel_rfl) 27 _ rfl (bp) (0) rfl (.agg DP) (LP.out)) hH ?_
    simp only [List.setIfInBounds_toArray, List.set_cons_zero, List.set_cons_succ]
    refine wpAnyH_take_at (i := 14) 21 (.agg DQ) rfl rfl (by kernel_rfl) (by kernel_rfl) (by kernel_rfl) (fun _ _ _ h => h) (yieldsIf_load_known (by kernel_rfl) 27 _ rfl (bq) (0) rfl (.agg DQ) (LQ.out)) hH ?_
    simp only [List.setIfInBounds_toArray, List.set_cons_zero, List.set_cons_succ]
    refine wpAnyH_ready (rs := [15]) (by kernel_rfl) (by simp) ?_
    refine AllReadyH.cons rfl (fun K hK => ?_) AllReadyH.nil
    rw [if_pos (by rfl)]
    go_simp
    go_wp2_with (go_at_call 11; refine (HPQ.out _).mono ?_; rintro e w7 ⟨rfl, kw7⟩)
    have K7 : Kept w3.heap.size w3.heap.size w3 w7 := K6.trans (kw7.mono K6.size (fun i hi _ => Nat.ne_of_lt (Nat.lt_of_lt_of_le hi K6.size)))
    refine hK.out _ _ (K7) (fun hH => ?_)
    clear hK K
    refine wpAnyH_take_ex (i := 16) 23 rfl rfl (by kernel_rfl) (by kernel_rfl) (by kernel_rfl) (fun _ _ _ _ h => h) (by kernel_rfl) hH ?_
    apply Exists.intro
    apply And.intro
    · intro w9 _
      go_simp
      first | done | rfl
    simp only [List.setIfInBounds_toArray, List.set_cons_zero, List.set_cons_succ]
    refine wpAnyH_take_at (i := 17) 24 undef rfl rfl (by kernel_rfl) (by kernel_rfl) (by kernel_rfl) (fun _ _ _ h => h) (.inr ⟨by kernel_rfl, rfl⟩) hH ?_
    simp only [List.setIfInBounds_toArray, List.set_cons_zero, List.set_cons_succ]
    refine wpAnyH_take_at (i := 18) 25 undef rfl rfl (by kernel_rfl) (by kernel_rfl) (by kernel_rfl) (fun _ _ _ h => h) (.inr ⟨by kernel_rfl, rfl⟩) hH ?_
    simp only [List.setIfInBounds_toArray, List.set_cons_zero, List.set_cons_succ]
    refine wpAnyH_take_at (i := 19) 26 undef rfl rfl (by kernel_rfl) (by kernel_rfl) (by kernel_rfl) (fun _ _ _ h => h) (.inr ⟨by kernel_rfl, rfl⟩) hH ?_
    simp only [List.setIfInBounds_toArray, List.set_cons_zero, List.set_cons_succ]
    refine wpAnyH_take_ex (i := 20) 27 rfl rfl (by kernel_rfl) (by kernel_rfl) (by kernel_rfl) (fun _ _ _ _ h => h) (by kernel_rfl) hH ?_
    apply Exists.intro
    apply And.intro
    · intro w9 _
      go_simp
      first | done | rfl
    simp only [List.setIfInBounds_toArray, List.set_cons_zero, List.set_cons_succ]
    refine wpAnyH_take_ex (i := 21) 28 rfl rfl (by kernel_rfl) (by kernel_rfl) (by kernel_rfl) (fun _ _ _ _ h => h) (by kernel_rfl) hH ?_
    apply Exists.intro
    apply And.intro
    · intro w9 _
      go_simp
      first | done | rfl
    simp only [List.setIfInBounds_toArray, List.set_cons_zero, List.set_cons_succ]
    refine wpAnyH_done (by kernel_rfl) ?_ _
    refine NoPanic.normal ?_
    go_upto_region 3 with fail
    refine wp_region_lit ?_
    refine @BigFrame.wpList_want _ _ _ _ _ _ _ ?hw76013 ?_
    case hw76013 => kernel_rfl
    intro K hK
    go_simp
    go_at_call 8
    refine (HAW.out _ (KW.out.onto K7)).mono ?_
    rintro e wa ⟨rfl, kwa⟩
    have Ka : Kept w3.heap.size w3.heap.size w3 wa := K7.onto kwa
    refine hK _ _ ?_
    clear hK K
    refine @BigFrame.wpList_want _ _ _ _ _ _ _ ?hw76015 ?_
    case hw76015 => kernel_rfl
    intro K hK
    go_simp
    refine hK _ _ ?_
    clear hK K
    refine @wpList_load_known _ _ _ _ _ _ _ ?hw76016 27 (.tmp 3) rfl (bp) (0) rfl (.agg DP) (LP.out _ Ka) ?_
    case hw76016 => kernel_rfl
    simp only [Act.put, List.setIfInBounds_toArray, List.set_cons_zero, List.set_cons_succ]
    refine @wpList_load_known _ _ _ _ _ _ _ ?hw76017 27 (.tmp 4) rfl (bq) (0) rfl (.agg DQ) (LQ.out _ Ka) ?_
    case hw76017 => kernel_rfl
    simp only [Act.put, List.setIfInBounds_toArray, List.set_cons_zero, List.set_cons_succ]
    refine @BigFrame.wpList_want _ _ _ _ _ _ _ ?hw76014 ?_
    case hw76014 => kernel_rfl
    intro K hK
    go_simp
    go_at_call 11
    refine (HPQ.out _).mono ?_
    rintro e wb ⟨rfl, kwb⟩
    have Kb : Kept w3.heap.size w3.heap.size w3 wb := Ka.onto kwb
    refine hK _ _ ?_
    clear hK K
    refine @BigFrame.wpList_want _ _ _ _ _ _ _ ?hw76018 ?_
    case hw76018 => kernel_rfl
    intro K hK
    go_simp
    refine hK _ _ ?_
    clear hK K
    refine @BigFrame.wpList_want _ _ _ _ _ _ _ ?hw76019 ?_
    case hw76019 => kernel_rfl
    intro K hK
    go_simp
    refine hK _ _ ?_
    clear hK K
    refine @wpList_skip _ _ _ _ _ _ _ ?hw76020 ?_
    case hw76020 => kernel_rfl
    simp only [Act.put, List.setIfInBounds_toArray, List.set_cons_zero, List.set_cons_succ]
    refine @wpList_skip _ _ _ _ _ _ _ ?hw76021 ?_
    case hw76021 => kernel_rfl
    simp only [Act.put, List.setIfInBounds_toArray, List.set_cons_zero, List.set_cons_succ]
    refine @wpList_skip _ _ _ _ _ _ _ ?hw76022 ?_
    case hw76022 => kernel_rfl
    simp only [Act.put, List.setIfInBounds_toArray, List.set_cons_zero, List.set_cons_succ]
    refine @wpList_skip _ _ _ _ _ _ _ ?hw76023 ?_
    case hw76023 => kernel_rfl
    simp only [Act.put, List.setIfInBounds_toArray, List.set_cons_zero, List.set_cons_succ]
    refine @BigFrame.wpList_want _ _ _ _ _ _ _ ?hw76024 ?_
    case hw76024 => kernel_rfl
    intro K hK
    go_simp
    refine hK _ _ ?_
    clear hK K
    refine @BigFrame.wpList_want _ _ _ _ _ _ _ ?hw76025 ?_
    case hw76025 => kernel_rfl
    intro K hK
    go_simp
    refine hK _ _ ?_
    clear hK K
    refine @wpList_skip _ _ _ _ _ _ _ ?hw76026 ?_
    case hw76026 => kernel_rfl
    simp only [Act.put, List.setIfInBounds_toArray, List.set_cons_zero, List.set_cons_succ]
    refine @wpList_skip _ _ _ _ _ _ _ ?hw76027 ?_
    case hw76027 => kernel_rfl
    simp only [Act.put, List.setIfInBounds_toArray, List.set_cons_zero, List.set_cons_succ]
    refine @wpList_skip _ _ _ _ _ _ _ ?hw76028 ?_
    case hw76028 => kernel_rfl
    simp only [Act.put, List.setIfInBounds_toArray, List.set_cons_zero, List.set_cons_succ]
    refine @BigFrame.wpList_want _ _ _ _ _ _ _ ?hw76029 ?_
    case hw76029 => kernel_rfl
    intro K hK
    go_simp
    refine hK _ _ ?_
    clear hK K
    refine @BigFrame.wpList_want _ _ _ _ _ _ _ ?hw76030 ?_
    case hw76030 => kernel_rfl
    intro K hK
    go_simp
    refine hK _ _ ?_
    clear hK K
    refine @BigFrame.wpList_want _ _ _ _ _ _ _ ?hw76031 ?_
    case hw76031 => kernel_rfl
    intro K hK
    go_simp
    refine hK _ _ ?_
    clear hK K
    go_wp2
    go_ret
    exact ⟨rfl, KW.out.onto Kb⟩
  · rw [hpq] at HPQ HRPQ
    rw [HAS.out hpq] at HQP
    have HT2 := Lib.hid (HTR.out hpq)
    clear HAS HTR
    refine wp_region_noPanic ?_
    refine wp_region_held_drew (S := fun w' => Kept w3.heap.size w3.heap.size w3 w') (by kernel_rfl) ((Kept.refl _ _ _).drew) (fun hH => ?_)
    refine wpAnyH_take_at (i := 0) 7 (.agg DP) rfl rfl (by kernel_rfl) (by kernel_rfl) (by kernel_rfl) (fun _ _ _ h => h) (yieldsIf_load_known (by kernel_rfl) 27 _ rfl (bp) (0) rfl (.agg DP) (LP.out)) hH ?_
    simp only [List.setIfInBounds_toArray, List.set_cons_zero, List.set_cons_succ]
    refine wpAnyH_take_at (i := 1) 8 (.agg DQ) rfl rfl (by kernel_rfl) (by kernel_rfl) (by kernel_rfl) (fun _ _ _ h => h) (yieldsIf_load_known (by kernel_rfl) 27 _ rfl (bq) (0) rfl (.agg DQ) (LQ.out)) hH ?_
    simp only [List.setIfInBounds_toArray, List.set_cons_zero, List.set_cons_succ]
    refine wpAnyH_take_at (i := 3) 10 (.agg DP) rfl rfl (by kernel_rfl) (by kernel_rfl) (by kernel_rfl) (fun _ _ _ h => h) (yieldsIf_load_known (by kernel_rfl) 27 _ rfl (bp) (0) rfl (.agg DP) (LP.out)) hH ?_
    simp only [List.setIfInBounds_toArray, List.set_cons_zero, List.set_cons_succ]
    refine wpAnyH_take_at (i := 4) 11 (.agg DQ) rfl rfl (by kernel_rfl) (by kernel_rfl) (by kernel_rfl) (fun _ _ _ h => h) (yieldsIf_load_known (by kernel_rfl) 27 _ rfl (bq) (0) rfl (.agg DQ) (LQ.out)) hH ?_
    simp only [List.setIfInBounds_toArray, List.set_cons_zero, List.set_cons_succ]
    refine wpAnyH_ready (rs := [2]) (by kernel_rfl) (by simp) ?_
    refine AllReadyH.cons rfl (fun K hK => ?_) AllReadyH.nil
    rw [if_pos (by rfl)]
    go_simp
    go_wp2_with (go_at_call 11; refine (HPQ.out _).mono ?_; rintro e w4 ⟨rfl, kw4⟩)
    have K4 : Kept w3.heap.size w3.heap.size w3 w4 := KD.trans (kw4.mono KD.size (fun i hi _ => Nat.ne_of_lt (Nat.lt_of_lt_of_le hi KD.size)))
    refine hK.out _ _ (K4) (fun hH => ?_)
    clear hK K
    refine wpAnyH_ready (rs := [5]) (by kernel_rfl) (by simp) ?_
    refine AllReadyH.cons rfl (fun K hK => ?_) AllReadyH.nil
    rw [if_pos (by rfl)]
    go_simp
    go_wp2_with (go_at_call 12; refine (HRPQ.out _).mono ?_; rintro e w5 ⟨rfl, kw5⟩)
    have K5 : Kept w3.heap.size w3.heap.size w3 w5 := K4.trans (kw5.mono K4.size (fun i hi _ => Nat.ne_of_lt (Nat.lt_of_lt_of_le hi K4.size)))
    refine hK.out _ _ (K5) (fun hH => ?_)
    clear hK K
    refine wpAnyH_take_ex (i := 6) 13 rfl rfl (by kernel_rfl) (by kernel_rfl) (by kernel_rfl) (fun _ _ _ _ h => h) (by kernel_rfl) hH ?_
    apply Exists.intro
    apply And.intro
    · intro w9 _
      go_simp
      first | done | rfl
    simp only [List.setIfInBounds_toArray, List.set_cons_zero, List.set_cons_succ]
    refine wpAnyH_take_ex (i := 7) 14 rfl rfl (by kernel_rfl) (by kernel_rfl) (by kernel_rfl) (fun _ _ _ _ h => h) (by kernel_rfl) hH ?_
    apply Exists.intro
    apply And.intro
    · intro w9 _
      go_simp
      first | done | rfl
    simp only [List.setIfInBounds_toArray, List.set_cons_zero, List.set_cons_succ]
    refine wpAnyH_take_at (i := 8) 15 (.agg DP) rfl rfl (by kernel_rfl) (by kernel_rfl) (by kernel_rfl) (fun _ _ _ h => h) (yieldsIf_load_known (by kernel_rfl) 27 _ rfl (bp) (0) rfl (.agg DP) (LP.out)) hH ?_
    simp only [List.setIfInBounds_toArray, List.set_cons_zero, List.set_cons_succ]
    refine wpAnyH_take_at (i := 9) 16 (.agg DP) rfl rfl (by kernel_rfl) (by kernel_rfl) (by kernel_rfl) (fun _ _ _ h => h) (yieldsIf_load_known (by kernel_rfl) 27 _ rfl (bp) (0) rfl (.agg DP) (LP.out)) hH ?_
    simp only [List.setIfInBounds_toArray, List.set_cons_zero, List.set_cons_succ]
    refine wpAnyH_ready (rs := [10]) (by kernel_rfl) (by simp) ?_
    refine AllReadyH.cons rfl (fun K hK => ?_) AllReadyH.nil
    rw [if_pos (by rfl)]
    go_simp
    go_wp2_with (go_at_call 11; refine (HPP.out _).mono ?_; rintro e w6 ⟨rfl, kw6⟩)
    have K6 : Kept w3.heap.size w3.heap.size w3 w6 := K5.trans (kw6.mono K5.size (fun i hi _ => Nat.ne_of_lt (Nat.lt_of_lt_of_le hi K5.size)))
    refine hK.out _ _ (K6) (fun hH => ?_)
    clear hK K
    refine wpAnyH_take_ex (i := 11) 18 rfl rfl (by kernel_rfl) (by kernel_rfl) (by kernel_rfl) (fun _ _ _ _ h => h) (by kernel_rfl) hH ?_
    apply Exists.intro
    apply And.intro
    · intro w9 _
      go_simp
      first | done | rfl
    simp only [List.setIfInBounds_toArray, List.set_cons_zero, List.set_cons_succ]
    refine wpAnyH_take_ex (i := 12) 19 rfl rfl (by kernel_rfl) (by kernel_rfl) (by kernel_rfl) (fun _ _ _ _ h => h) (by kernel_rfl) hH ?_
    apply Exists.intro
    apply And.intro
    · intro w9 _
      go_simp
      first | done | rfl
    simp only [List.setIfInBounds_toArray, List.set_cons_zero, List.set_cons_succ]
    refine wpAnyH_take_at (i := 13) 20 (.agg DP) rfl rfl (by kernel_rfl) (by kernel_rfl) (by kernel_rfl) (fun _ _ _ h => h) (yieldsIf_load_known (by kernel_rfl) 27 _ rfl (bp) (0) rfl (.agg DP) (LP.out)) hH ?_
    simp only [List.setIfInBounds_toArray, List.set_cons_zero, List.set_cons_succ]
    refine wpAnyH_take_at (i := 14) 21 (.agg DQ) rfl rfl (by kernel_rfl) (by kernel_rfl) (by kernel_rfl) (fun _ _ _ h => h) (yieldsIf_load_known (by kernel_rfl) 27 _ rfl (bq) (0) rfl (.agg DQ) (LQ.out)) hH ?_
    simp only [List.setIfInBounds_toArray, List.set_cons_zero, List.set_cons_succ]
    refine wpAnyH_ready (rs := [15]) (by kernel_rfl) (by simp) ?_
    refine AllReadyH.cons rfl (fun K hK => ?_) AllReadyH.nil
    rw [if_pos (by rfl)]
    go_simp
    go_wp2_with (go_at_call 11; refine (HPQ.out _).mono ?_; rintro e w7 ⟨rfl, kw7⟩)
    have K7 : Kept w3.heap.size w3.heap.size w3 w7 := K6.trans (kw7.mono K6.size (fun i hi _ => Nat.ne_of_lt (Nat.lt_of_lt_of_le hi K6.size)))
    refine hK.out _ _ (K7) (fun hH => ?_)
    clear hK K
    refine wpAnyH_take_ex (i := 16) 23 rfl rfl (by kernel_rfl) (by kernel_rfl) (by kernel_rfl) (fun _ _ _ _ h => h) (by kernel_rfl) hH ?_
    apply Exists.intro
    apply And.intro
    · intro w9 _
      go_simp
      first | done | rfl
    simp only [List.setIfInBounds_toArray, List.set_cons_zero, List.set_cons_succ]
    refine wpAnyH_take_at (i := 17) 24 (.agg DQ) rfl rfl (by kernel_rfl) (by kernel_rfl) (by kernel_rfl) (fun _ _ _ h => h) (yieldsIf_load_known (by kernel_rfl) 27 _ rfl (bq) (0) rfl (.agg DQ) (LQ.out)) hH ?_
    simp only [List.setIfInBounds_toArray, List.set_cons_zero, List.set_cons_succ]
    refine wpAnyH_take_at (i := 18) 25 (.agg DP) rfl rfl (by kernel_rfl) (by kernel_rfl) (by kernel_rfl) (fun _ _ _ h => h) (yieldsIf_load_known (by kernel_rfl) 27 _ rfl (bp) (0) rfl (.agg DP) (LP.out)) hH ?_
    simp only [List.setIfInBounds_toArray, List.set_cons_zero, List.set_cons_succ]
    refine wpAnyH_ready (rs := [19]) (by kernel_rfl) (by simp) ?_
    refine AllReadyH.cons rfl (fun K hK => ?_) AllReadyH.nil
    rw [if_pos (by rfl)]
    go_simp
    go_wp2_with (go_at_call 11; refine (HQP.out _).mono ?_; rintro e w8 ⟨rfl, kw8⟩)
    have K8 : Kept w3.heap.size w3.heap.size w3 w8 := K7.trans (kw8.mono K7.size (fun i hi _ => Nat.ne_of_lt (Nat.lt_of_lt_of_le hi K7.size)))
    refine hK.out _ _ (K8) (fun hH => ?_)
    clear hK K
    refine wpAnyH_take_ex (i := 20) 27 rfl rfl (by kernel_rfl) (by kernel_rfl) (by kernel_rfl) (fun _ _ _ _ h => h) (by kernel_rfl) hH ?_
    apply Exists.intro
    apply And.intro
    · intro w9 _
      go_simp
      first | done | rfl
    simp only [List.setIfInBounds_toArray, List.set_cons_zero, List.set_cons_succ]
    refine wpAnyH_take_ex (i := 21) 28 rfl rfl (by kernel_rfl) (by kernel_rfl) (by kernel_rfl) (fun _ _ _ _ h => h) (by kernel_rfl) hH ?_
    apply Exists.intro
    apply And.intro
    · intro w9 _
      go_simp
      first | done | rfl
    simp only [List.setIfInBounds_toArray, List.set_cons_zero, List.set_cons_succ]
    refine wpAnyH_done (by kernel_rfl) ?_ _
    refine NoPanic.normal ?_
    cases hqs : Cm.less q s
    · rw [hqs] at HQS
      go_upto_region 3 with fail
      refine wp_region_lit ?_
      refine @BigFrame.wpList_want _ _ _ _ _ _ _ ?hw76032 ?_
      case hw76032 => kernel_rfl
      intro K hK
      go_simp
      go_at_call 8
      refine (HAW.out _ (KW.out.onto K8)).mono ?_
      rintro e wa ⟨rfl, kwa⟩
      have Ka : Kept w3.heap.size w3.heap.size w3 wa := K8.onto kwa
      refine hK _ _ ?_
      clear hK K
      refine @BigFrame.wpList_want _ _ _ _ _ _ _ ?hw76035 ?_
      case hw76035 => kernel_rfl
      intro K hK
      go_simp
      refine hK _ _ ?_
      clear hK K
      refine @wpList_load_known _ _ _ _ _ _ _ ?hw76036 27 (.tmp 3) rfl (bp) (0) rfl (.agg DP) (LP.out _ Ka) ?_
      case hw76036 => kernel_rfl
      simp only [Act.put, List.setIfInBounds_toArray, List.set_cons_zero, List.set_cons_succ]
      refine @wpList_load_known _ _ _ _ _ _ _ ?hw76037 27 (.tmp 4) rfl (bq) (0) rfl (.agg DQ) (LQ.out _ Ka) ?_
      case hw76037 => kernel_rfl
      simp only [Act.put, List.setIfInBounds_toArray, List.set_cons_zero, List.set_cons_succ]
      refine @BigFrame.wpList_want _ _ _ _ _ _ _ ?hw76033 ?_
      case hw76033 => kernel_rfl
      intro K hK
      go_simp
      go_at_call 11
      refine (HPQ.out _).mono ?_
      rintro e wb ⟨rfl, kwb⟩
      have Kb : Kept w3.heap.size w3.heap.size w3 wb := Ka.onto kwb
      refine hK _ _ ?_
      clear hK K
      refine @BigFrame.wpList_want _ _ _ _ _ _ _ ?hw76038 ?_
      case hw76038 => kernel_rfl
      intro K hK
      go_simp
      refine hK _ _ ?_
      clear hK K
      refine @BigFrame.wpList_want _ _ _ _ _ _ _ ?hw76039 ?_
      case hw76039 => kernel_rfl
      intro K hK
      go_simp
      refine hK _ _ ?_
      clear hK K
      refine @wpList_load_known _ _ _ _ _ _ _ ?hw76040 27 (.tmp 4) rfl (bq) (0) rfl (.agg DQ) (LQ.out _ Kb) ?_
      case hw76040 => kernel_rfl
      simp only [Act.put, List.setIfInBounds_toArray, List.set_cons_zero, List.set_cons_succ]
      refine @wpList_load_known _ _ _ _ _ _ _ ?hw76041 27 (.tmp 5) rfl (bs) (0) rfl (.agg DS) (LS.out _ Kb) ?_
      case hw76041 => kernel_rfl
      simp only [Act.put, List.setIfInBounds_toArray, List.set_cons_zero, List.set_cons_succ]
      refine @BigFrame.wpList_want _ _ _ _ _ _ _ ?hw76034 ?_
      case hw76034 => kernel_rfl
      intro K hK
      go_simp
      go_at_call 11
      refine (HQS.out _).mono ?_
      rintro e wc ⟨rfl, kwc⟩
      have Kc : Kept w3.heap.size w3.heap.size w3 wc := Kb.onto kwc
      refine hK _ _ ?_
      clear hK K
      refine @BigFrame.wpList_want _ _ _ _ _ _ _ ?hw76042 ?_
      case hw76042 => kernel_rfl
      intro K hK
      go_simp
      refine hK _ _ ?_
      clear hK K
      refine @BigFrame.wpList_want _ _ _ _ _ _ _ ?hw76043 ?_
      case hw76043 => kernel_rfl
      intro K hK
      go_simp
      refine hK _ _ ?_
      clear hK K
      refine @BigFrame.wpList_want _ _ _ _ _ _ _ ?hw76044 ?_
      case hw76044 => kernel_rfl
      intro K hK
      go_simp
      refine hK _ _ ?_
      clear hK K
      refine @wpList_skip _ _ _ _ _ _ _ ?hw76045 ?_
      case hw76045 => kernel_rfl
      simp only [Act.put, List.setIfInBounds_toArray, List.set_cons_zero, List.set_cons_succ]
      refine @wpList_skip _ _ _ _ _ _ _ ?hw76046 ?_
      case hw76046 => kernel_rfl
      simp only [Act.put, List.setIfInBounds_toArray, List.set_cons_zero, List.set_cons_succ]
      refine @wpList_skip _ _ _ _ _ _ _ ?hw76047 ?_
      case hw76047 => kernel_rfl
      simp only [Act.put, List.setIfInBounds_toArray, List.set_cons_zero, List.set_cons_succ]
      refine @BigFrame.wpList_want _ _ _ _ _ _ _ ?hw76048 ?_
      case hw76048 => kernel_rfl
      intro K hK
      go_simp
      refine hK _ _ ?_
      clear hK K
      refine @BigFrame.wpList_want _ _ _ _ _ _ _ ?hw76049 ?_
      case hw76049 => kernel_rfl
      intro K hK
      go_simp
      refine hK _ _ ?_
      clear hK K
      refine @BigFrame.wpList_want _ _ _ _ _ _ _ ?hw76050 ?_
      case hw76050 => kernel_rfl
      intro K hK
      go_simp
      refine hK _ _ ?_
      clear hK K
      go_wp2
      go_ret
      exact ⟨rfl, KW.out.onto Kc⟩
    · rw [hqs] at HQS
      rw [HT2.out hqs] at HPS
      go_upto_region 3 with fail
      refine wp_region_lit ?_
      refine @BigFrame.wpList_want _ _ _ _ _ _ _ ?hw76051 ?_
      case hw76051 => kernel_rfl
      intro K hK
      go_simp
      go_at_call 8
      refine (HAW.out _ (KW.out.onto K8)).mono ?_
      rintro e wa ⟨rfl, kwa⟩
      have Ka : Kept w3.heap.size w3.heap.size w3 wa := K8.onto kwa
      refine hK _ _ ?_
      clear hK K
      refine @BigFrame.wpList_want _ _ _ _ _ _ _ ?hw76055 ?_
      case hw76055 => kernel_rfl
      intro K hK
      go_simp
      refine hK _ _ ?_
      clear hK K
      refine @wpList_load_known _ _ _ _ _ _ _ ?hw76056 27 (.tmp 3) rfl (bp) (0) rfl (.agg DP) (LP.out _ Ka) ?_
      case hw76056 => kernel_rfl
      simp only [Act.put, List.setIfInBounds_toArray, List.set_cons_zero, List.set_cons_succ]
      refine @wpList_load_known _ _ _ _ _ _ _ ?hw76057 27 (.tmp 4) rfl (bq) (0) rfl (.agg DQ) (LQ.out _ Ka) ?_
      case hw76057 => kernel_rfl
      simp only [Act.put, List.setIfInBounds_toArray, List.set_cons_zero, List.set_cons_succ]
      refine @BigFrame.wpList_want _ _ _ _ _ _ _ ?hw76052 ?_
      case hw76052 => kernel_rfl
      intro K hK
      go_simp
      go_at_call 11
      refine (HPQ.out _).mono ?_
      rintro e wb ⟨rfl, kwb⟩
      have Kb : Kept w3.heap.size w3.heap.size w3 wb := Ka.onto kwb
      refine hK _ _ ?_
      clear hK K
      refine @BigFrame.wpList_want _ _ _ _ _ _ _ ?hw76058 ?_
      case hw76058 => kernel_rfl
      intro K hK
      go_simp
      refine hK _ _ ?_
      clear hK K
      refine @BigFrame.wpList_want _ _ _ _ _ _ _ ?hw76059 ?_
      case hw76059 => kernel_rfl
      intro K hK
      go_simp
      refine hK _ _ ?_
      clear hK K
      refine @wpList_load_known _ _ _ _ _ _ _ ?hw76060 27 (.tmp 4) rfl (bq) (0) rfl (.agg DQ) (LQ.out _ Kb) ?_
      case hw76060 => kernel_rfl
      simp only [Act.put, List.setIfInBounds_toArray, List.set_cons_zero, List.set_cons_succ]
      refine @wpList_load_known _ _ _ _ _ _ _ ?hw76061 27 (.tmp 5) rfl (bs) (0) rfl (.agg DS) (LS.out _ Kb) ?_
      case hw76061 => kernel_rfl
      simp only [Act.put, List.setIfInBounds_toArray, List.set_cons_zero, List.set_cons_succ]
      refine @BigFrame.wpList_want _ _ _ _ _ _ _ ?hw76053 ?_
      case hw76053 => kernel_rfl
      intro K hK
      go_simp
      go_at_call 11
      refine (HQS.out _).mono ?_
      rintro e wc ⟨rfl, kwc⟩
      have Kc : Kept w3.heap.size w3.heap.size w3 wc := Kb.onto kwc
      refine hK _ _ ?_
      clear hK K
      refine @BigFrame.wpList_want _ _ _ _ _ _ _ ?hw76062 ?_
      case hw76062 => kernel_rfl
      intro K hK
      go_simp
      refine hK _ _ ?_
      clear hK K
      refine @BigFrame.wpList_want _ _ _ _ _ _ _ ?hw76063 ?_
      case hw76063 => kernel_rfl
      intro K hK
      go_simp
      refine hK _ _ ?_
      clear hK K
      refine @BigFrame.wpList_want _ _ _ _ _ _ _ ?hw76064 ?_
      case hw76064 => kernel_rfl
      intro K hK
      go_simp
      refine hK _ _ ?_
      clear hK K
      refine @wpList_load_known _ _ _ _ _ _ _ ?hw76065 27 (.tmp 3) rfl (bp) (0) rfl (.agg DP) (LP.out _ Kc) ?_
      case hw76065 => kernel_rfl
      simp only [Act.put, List.setIfInBounds_toArray, List.set_cons_zero, List.set_cons_succ]
      refine @wpList_load_known _ _ _ _ _ _ _ ?hw76066 27 (.tmp 5) rfl (bs) (0) rfl (.agg DS) (LS.out _ Kc) ?_
      case hw76066 => kernel_rfl
      simp only [Act.put, List.setIfInBounds_toArray, List.set_cons_zero, List.set_cons_succ]
      refine @BigFrame.wpList_want _ _ _ _ _ _ _ ?hw76054 ?_
      case hw76054 => kernel_rfl
      intro K hK
      go_simp
      go_at_call 11
      refine (HPS.out _).mono ?_
      rintro e wd ⟨rfl, kwd⟩
      have Kd : Kept w3.heap.size w3.heap.size w3 wd := Kc.onto kwd
      refine hK _ _ ?_
      clear hK K
      refine @BigFrame.wpList_want _ _ _ _ _ _ _ ?hw76067 ?_
      case hw76067 => kernel_rfl
      intro K hK
      go_simp
      refine hK _ _ ?_
      clear hK K
      refine @BigFrame.wpList_want _ _ _ _ _ _ _ ?hw76068 ?_
      case hw76068 => kernel_rfl
      intro K hK
      go_simp
      refine hK _ _ ?_
      clear hK K
      refine @BigFrame.wpList_want _ _ _ _ _ _ _ ?hw76069 ?_
      case hw76069 => kernel_rfl
      intro K hK
      go_simp
      refine hK _ _ ?_
      clear hK K
      go_wp2
      go_ret
      exact ⟨rfl, KW.out.onto Kd⟩

end Go.Proofs.YtcjcomeakkjiiaaDoor
