/-
  The law ChangeSigns.
-/
import Derived.Test.YtcjcomeakkjiiaaDoorID

namespace Go.Proofs.YtcjcomeakkjiiaaDoor
open Go.RowKit Go.Lib

set_option maxRecDepth 100000 in
set_option maxHeartbeats 6400000 in
theorem changesigns_walk (p : Cg) (hp : p.Ok) (k : List UInt8) (hk : k.length = 32) (u : List UInt8) (hu : u.length = 32) (w : World) (htab : Tab w) : Calls Tryd.prog 7 #[.agg p.cells.toArray, .agg (bcells k).toArray, .agg (bcells u).toArray] w fun e w' => e = .returned (.bool true) ∧ Kept w.heap.size w.heap.size w w' := by
  have hsk := Cm.signed_ok hp (Pm.ver k)
  have HAW := Lib.hid (fun (x : World) (k : Kept w.heap.size w.heap.size w x) => change_awake x (htab.onto k))
  have HRR := Lib.hid (fun x => refright_calls10 p hp x)
  have HSB0 := Lib.hid (fun (h : Cm.right p = false) (x : World) => sign_bad10 p hp k hk h x)
  have HSG0 := Lib.hid (fun (h : Cm.right p = true) (x : World) (kk : Kept w.heap.size w.heap.size w x) => sign_ok10 p hp k hk h x (htab.onto kk))
  have HRS0 := Lib.hid (fun (h : Cm.right p = true) (x : World) => refsign_calls10 p hp k hk h x)
  have HVE := Lib.hid (fun x => verify_calls10 k hk x)
  have HCV0 := Lib.hid (fun (h : Cm.right p = true) (x : World) (kk : Kept w.heap.size w.heap.size w x) => by
    have := check_calls10 (Cm.signed p (Pm.ver k)) hsk (Pm.ver k) (Pm.ver_length _) x (htab.onto kk)
    rw [Cm.checks_signed h] at this
    exact this)
  have HCO := Lib.hid (fun (x : World) (kk : Kept w.heap.size w.heap.size w x) => check_calls10 (Cm.signed p (Pm.ver k)) hsk u hu x (htab.onto kk))
  have HRC := Lib.hid (fun (x : World) => refcheck_calls10 (Cm.signed p (Pm.ver k)) hsk u hu x)
  have HEP := Lib.hid (fun x => cg_equalIn x p hp)
  have HES := Lib.hid (fun x => cg_equalIn x (Cm.signed p (Pm.ver k)) hsk)
  have HSI := Lib.hid (cgInfo (Cg.size hsk))
  have HSZ := Lib.hid (show Cm.zero.cells.toArray.size = (Cm.signed p (Pm.ver k)).cells.toArray.size by rw [Cg.size hsk, Cg.size Cm.zero_ok])
  have HSA := Lib.hid (Cm.signed p (Pm.ver k)).all
  have HLP := Lib.hid (fun (x : World) (b : Nat) (h : x.heap[b]? = some (.cells p.cells.toArray 27 (0, 0))) => load_cg h hp)
  have HLS := Lib.hid (fun (x : World) (b : Nat) (h : x.heap[b]? = some (.cells (Cm.signed p (Pm.ver k)).cells.toArray 27 (0, 0))) => load_cg h hsk)
  have HLK := Lib.hid (fun (x : World) (b : Nat) (h : x.heap[b]? = some (.cells (bcells k).toArray 23 (0, 0))) => load_row_hash hk h)
  have HLO := Lib.hid (fun (x : World) (b : Nat) (h : x.heap[b]? = some (.cells (bcells u).toArray 23 (0, 0))) => load_row_hash hu h)
  obtain ⟨cq, hcq⟩ : ∃ t, t = Cm.checks (Cm.signed p (Pm.ver k)) u := ⟨_, rfl⟩
  obtain ⟨DS, hDS⟩ : ∃ D, D = (Cm.signed p (Pm.ver k)).cells.toArray := ⟨_, rfl⟩
  obtain ⟨vc, hvc⟩ : ∃ D, D = (bcells (Pm.ver k)).toArray := ⟨_, rfl⟩
  obtain ⟨DP, hDP⟩ : ∃ D, D = p.cells.toArray := ⟨_, rfl⟩
  obtain ⟨kc, hkc⟩ : ∃ D, D = (bcells k).toArray := ⟨_, rfl⟩
  obtain ⟨oc, hoc⟩ : ∃ D, D = (bcells u).toArray := ⟨_, rfl⟩
  rw [← hcq] at HCO HRC
  rw [← hDS] at HSG0 HRS0 HCV0 HCO HRC HES HSI HSZ HSA HLS
  rw [← hvc] at HVE HCV0
  rw [← hDP] at HRR HSB0 HSG0 HRS0 HEP HLP ⊢
  rw [← hkc] at HSB0 HSG0 HRS0 HVE HLK ⊢
  rw [← hoc] at HCO HRC HLO ⊢
  clear hcq hDS hvc hDP hkc hoc hsk hp hk hu htab
  go_enter Tryd.func7, Tryd.ntmps7
  go_upto_region 0 with fail
  refine wp_region_lit ?_
  refine @BigFrame.wpList_want _ _ _ _ _ _ _ ?hw76078 ?_
  case hw76078 => kernel_rfl
  intro K hK
  go_simp
  refine hK _ _ ?_
  clear hK K
  have knw1 : Kept w.heap.size w.heap.size w (w.alloc (.cells DP 27)) := (Kept.refl _ _ _).alloc (Nat.le_refl _) _
  have rnw1 := heap_new w (.cells DP 27)
  have Kw1 := knw1
  generalize w.alloc (.cells DP 27) = w1 at knw1 rnw1 Kw1  ⊢
  obtain ⟨bp, hbp⟩ : ∃ n, n = w.heap.size := ⟨_, rfl⟩
  rw [← hbp] at rnw1
  (try rw [← hbp])
  clear hbp knw1
  have rbp := rnw1
  clear rnw1
  refine @BigFrame.wpList_want _ _ _ _ _ _ _ ?hw76079 ?_
  case hw76079 => kernel_rfl
  intro K hK
  go_simp
  refine hK _ _ ?_
  clear hK K
  have knw2 : Kept w1.heap.size w1.heap.size w1 (w1.alloc (.cells kc 23)) := (Kept.refl _ _ _).alloc (Nat.le_refl _) _
  have rnw2 := heap_new w1 (.cells kc 23)
  have rbpw2 := row_kept rbp knw2
  have Kw2 := Kw1.onto knw2
  generalize w1.alloc (.cells kc 23) = w2 at knw2 rnw2 Kw2 rbpw2 ⊢
  obtain ⟨bk, hbk⟩ : ∃ n, n = w1.heap.size := ⟨_, rfl⟩
  rw [← hbk] at rnw2
  (try rw [← hbk])
  clear hbk knw2
  clear rbp
  have rbp := rbpw2
  clear rbpw2
  have rbk := rnw2
  clear rnw2
  refine @BigFrame.wpList_want _ _ _ _ _ _ _ ?hw76080 ?_
  case hw76080 => kernel_rfl
  intro K hK
  go_simp
  refine hK _ _ ?_
  clear hK K
  have knw3 : Kept w2.heap.size w2.heap.size w2 (w2.alloc (.cells oc 23)) := (Kept.refl _ _ _).alloc (Nat.le_refl _) _
  have rnw3 := heap_new w2 (.cells oc 23)
  have rbpw3 := row_kept rbp knw3
  have rbkw3 := row_kept rbk knw3
  have Kw3 := Kw2.onto knw3
  generalize w2.alloc (.cells oc 23) = w3 at knw3 rnw3 Kw3 rbpw3 rbkw3 ⊢
  obtain ⟨bo, hbo⟩ : ∃ n, n = w2.heap.size := ⟨_, rfl⟩
  rw [← hbo] at rnw3
  (try rw [← hbo])
  clear hbo knw3
  clear rbp
  have rbp := rbpw3
  clear rbpw3
  clear rbk
  have rbk := rbkw3
  clear rbkw3
  have rbo := rnw3
  clear rnw3
  refine @BigFrame.wpList_want _ _ _ _ _ _ _ ?hw76081 ?_
  case hw76081 => kernel_rfl
  intro K hK
  go_simp
  refine hK _ _ ?_
  clear hK K
  have LP := Lib.hid (fun (x : World) (k : Kept w3.heap.size w3.heap.size w3 x) => HLP.out x bp (row_kept rbp k))
  have LK := Lib.hid (fun (x : World) (k : Kept w3.heap.size w3.heap.size w3 x) => HLK.out x bk (row_kept rbk k))
  have LO := Lib.hid (fun (x : World) (k : Kept w3.heap.size w3.heap.size w3 x) => HLO.out x bo (row_kept rbo k))
  have KW := Lib.hid Kw3
  clear rbp rbk rbo Kw3 Kw1 Kw2 HLP HLK HLO
  cases hr : Cm.right p
  · rw [hr] at HRR
    have HSB := Lib.hid (HSB0.out hr)
    clear HSB0 HSG0 HRS0 HCV0 hr
    go_upto_region 1 with fail
    refine wp_region_lit ?_
    refine @wpList_load_known _ _ _ _ _ _ _ ?hw76083 27 (.tmp 3) rfl (bp) (0) rfl (.agg DP) (LP.out _ (Kept.refl _ _ _)) ?_
    case hw76083 => kernel_rfl
    simp only [Act.put, List.setIfInBounds_toArray, List.set_cons_zero, List.set_cons_succ]
    refine @BigFrame.wpList_want _ _ _ _ _ _ _ ?hw76082 ?_
    case hw76082 => kernel_rfl
    intro K hK
    go_simp
    go_at_call 10
    refine (HRR.out _).mono ?_
    rintro e w4 ⟨rfl, k4⟩
    refine hK _ _ ?_
    clear hK K
    refine @BigFrame.wpList_want _ _ _ _ _ _ _ ?hw76084 ?_
    case hw76084 => kernel_rfl
    intro K hK
    go_simp
    refine hK _ _ ?_
    clear hK K
    have KD : Kept w3.heap.size w3.heap.size w3 w4.drew := k4.drew
    go_upto_region 2 with fail
    refine wp_region_noPanic ?_
    refine wp_region_held_drew (S := fun w' => Kept w3.heap.size w3.heap.size w3 w') (by kernel_rfl) (KD) (fun hH => ?_)
    refine wpAnyH_ready (rs := [0]) (by kernel_rfl) (by simp) ?_
    refine AllReadyH.cons rfl (fun K hK => ?_) AllReadyH.nil
    rw [if_pos (by rfl)]
    go_simp
    go_wp2_with (go_at_call 8; refine (HAW.out _ (KW.out.onto KD)).mono ?_; rintro e w5 ⟨rfl, kw5⟩)
    have K5 : Kept w3.heap.size w3.heap.size w3 w5 := KD.trans (kw5.mono KD.size (fun i hi _ => Nat.ne_of_lt (Nat.lt_of_lt_of_le hi KD.size)))
    refine hK.out _ _ (K5) (fun hH => ?_)
    clear hK K
    refine wpAnyH_take_ex (i := 1) 12 rfl rfl (by kernel_rfl) (by kernel_rfl) (by kernel_rfl) (fun _ _ _ _ h => h) (by kernel_rfl) hH ?_
    apply Exists.intro
    apply And.intro
    · intro w9 _
      go_simp
      first | done | rfl
    simp only [List.setIfInBounds_toArray, List.set_cons_zero, List.set_cons_succ]
    refine wpAnyH_take_at (i := 2) 13 (.agg DP) rfl rfl (by kernel_rfl) (by kernel_rfl) (by kernel_rfl) (fun _ _ _ h => h) (yieldsIf_load_known (by kernel_rfl) 27 _ rfl (bp) (0) rfl (.agg DP) (LP.out)) hH ?_
    simp only [List.setIfInBounds_toArray, List.set_cons_zero, List.set_cons_succ]
    refine wpAnyH_take_at (i := 3) 14 (.agg kc) rfl rfl (by kernel_rfl) (by kernel_rfl) (by kernel_rfl) (fun _ _ _ h => h) (yieldsIf_load_known (by kernel_rfl) 23 _ rfl (bk) (0) rfl (.agg kc) (LK.out)) hH ?_
    simp only [List.setIfInBounds_toArray, List.set_cons_zero, List.set_cons_succ]
    refine wpAnyH_take_at (i := 5) 16 (.agg DP) rfl rfl (by kernel_rfl) (by kernel_rfl) (by kernel_rfl) (fun _ _ _ h => h) (yieldsIf_load_known (by kernel_rfl) 27 _ rfl (bp) (0) rfl (.agg DP) (LP.out)) hH ?_
    simp only [List.setIfInBounds_toArray, List.set_cons_zero, List.set_cons_succ]
    refine wpAnyH_ready (rs := [4]) (by kernel_rfl) (by simp) ?_
    refine AllReadyH.cons rfl (fun K hK => ?_) AllReadyH.nil
    rw [if_pos (by rfl)]
    go_simp
    go_wp2_with (go_at_call 15; refine (HSB.out _).mono ?_; rintro e w6 ⟨rfl, kw6⟩)
    have K6 : Kept w3.heap.size w3.heap.size w3 w6 := K5.trans (kw6.mono K5.size (fun i hi _ => Nat.ne_of_lt (Nat.lt_of_lt_of_le hi K5.size)))
    refine hK.out _ _ (K6) (fun hH => ?_)
    clear hK K
    refine wpAnyH_take_at (i := 6) 17 (.bool true) rfl rfl (by kernel_rfl) (by kernel_rfl) (by kernel_rfl) (fun _ _ _ h => h) (yieldsIf_eql10 (by kernel_rfl) _ _ _ _ rfl (DP) (DP) rfl rfl cgGuard (true) (HEP.out)) hH ?_
    simp only [List.setIfInBounds_toArray, List.set_cons_zero, List.set_cons_succ]
    refine wpAnyH_take_ex (i := 7) 18 rfl rfl (by kernel_rfl) (by kernel_rfl) (by kernel_rfl) (fun _ _ _ _ h => h) (by kernel_rfl) hH ?_
    apply Exists.intro
    apply And.intro
    · intro w9 _
      go_simp
      first | done | rfl
    simp only [List.setIfInBounds_toArray, List.set_cons_zero, List.set_cons_succ]
    refine wpAnyH_take_ex (i := 8) 6 rfl rfl (by kernel_rfl) (by kernel_rfl) (by kernel_rfl) (fun _ _ _ _ h => h) (by kernel_rfl) hH ?_
    apply Exists.intro
    apply And.intro
    · intro w9 _
      go_simp
      first | done | rfl
    simp only [List.setIfInBounds_toArray, List.set_cons_zero, List.set_cons_succ]
    refine wpAnyH_done (by kernel_rfl) ?_ _
    refine NoPanic.normal ?_
    go_wp2
    go_ret
    exact ⟨rfl, KW.out.onto K6⟩
  · rw [hr] at HRR
    have HSG := Lib.hid (HSG0.out hr)
    have HRS := Lib.hid (HRS0.out hr)
    have HCV := Lib.hid (HCV0.out hr)
    clear HSB0 HSG0 HRS0 HCV0 hr
    go_upto_region 1 with fail
    refine wp_region_lit ?_
    refine @wpList_load_known _ _ _ _ _ _ _ ?hw76086 27 (.tmp 3) rfl (bp) (0) rfl (.agg DP) (LP.out _ (Kept.refl _ _ _)) ?_
    case hw76086 => kernel_rfl
    simp only [Act.put, List.setIfInBounds_toArray, List.set_cons_zero, List.set_cons_succ]
    refine @BigFrame.wpList_want _ _ _ _ _ _ _ ?hw76085 ?_
    case hw76085 => kernel_rfl
    intro K hK
    go_simp
    go_at_call 10
    refine (HRR.out _).mono ?_
    rintro e w4 ⟨rfl, k4⟩
    refine hK _ _ ?_
    clear hK K
    refine @BigFrame.wpList_want _ _ _ _ _ _ _ ?hw76087 ?_
    case hw76087 => kernel_rfl
    intro K hK
    go_simp
    refine hK _ _ ?_
    clear hK K
    go_upto_region 3 with fail
    refine wp_region_lit ?_
    refine @wpList_load_known _ _ _ _ _ _ _ ?hw76089 27 (.tmp 3) rfl (bp) (0) rfl (.agg DP) (LP.out _ k4) ?_
    case hw76089 => kernel_rfl
    simp only [Act.put, List.setIfInBounds_toArray, List.set_cons_zero, List.set_cons_succ]
    refine @wpList_load_known _ _ _ _ _ _ _ ?hw76090 23 (.tmp 4) rfl (bk) (0) rfl (.agg kc) (LK.out _ k4) ?_
    case hw76090 => kernel_rfl
    simp only [Act.put, List.setIfInBounds_toArray, List.set_cons_zero, List.set_cons_succ]
    refine @BigFrame.wpList_want _ _ _ _ _ _ _ ?hw76088 ?_
    case hw76088 => kernel_rfl
    intro K hK
    go_simp
    go_at_call 15
    refine (HSG.out _ (KW.out.onto k4)).mono ?_
    rintro e w5 ⟨rfl, k5⟩
    refine hK _ _ ?_
    clear hK K
    refine @wpL_alloc _ _ _ _ _ _ _ _ ?hw76091 27 rfl _ (alloc_cg _) ?_
    case hw76091 => kernel_rfl
    simp only [Act.put, List.setIfInBounds_toArray, List.set_cons_zero, List.set_cons_succ]
    refine wpList_store_row rfl 27 _ _ rfl (w5.heap.size) DS rfl rfl 27 Cm.zero.cells.toArray (heap_new _ _) (HSI.out) (HSZ.out) (HSA.out) ?_
    simp only [Act.put]
    rw [World.setRow_alloc_new]
    have K5 : Kept w3.heap.size w3.heap.size w3 w5 := k4.onto k5
    have k6 : Kept w5.heap.size w5.heap.size w5 (w5.alloc (.cells DS 27)) := (Kept.refl _ _ _).alloc (Nat.le_refl _) _
    have r6 := heap_new w5 (.cells DS 27)
    have K6 := K5.onto k6
    generalize w5.alloc (.cells DS 27) = w6 at k6 r6 K6 ⊢
    obtain ⟨bs, hbs⟩ : ∃ n, n = w5.heap.size := ⟨_, rfl⟩
    rw [← hbs] at r6
    (try rw [← hbs])
    clear hbs k6 k5 k4 K5
    have LS := Lib.hid (fun (x : World) (k : Kept w6.heap.size w6.heap.size w6 x) => HLS.out x bs (row_kept r6 k))
    have LP2 := Lib.hid (fun (x : World) (k : Kept w6.heap.size w6.heap.size w6 x) => LP.out x (K6.onto k))
    have LK2 := Lib.hid (fun (x : World) (k : Kept w6.heap.size w6.heap.size w6 x) => LK.out x (K6.onto k))
    have LO2 := Lib.hid (fun (x : World) (k : Kept w6.heap.size w6.heap.size w6 x) => LO.out x (K6.onto k))
    have KW2 := Lib.hid (KW.out.onto K6)
    have KD : Kept w6.heap.size w6.heap.size w6 w6.drew := (Kept.refl _ _ _).drew
    clear r6 K6 KW LP LK LO HLS
    go_upto_region 4 with fail
    refine wp_region_noPanic ?_
    refine wp_region_held_drew (S := fun w' => Kept w6.heap.size w6.heap.size w6 w') (by kernel_rfl) ((Kept.refl _ _ _).drew) (fun hH => ?_)
    refine wpAnyH_ready (rs := [0]) (by kernel_rfl) (by simp) ?_
    refine AllReadyH.cons rfl (fun K hK => ?_) AllReadyH.nil
    rw [if_pos (by rfl)]
    go_simp
    go_wp2_with (go_at_call 8; refine (HAW.out _ (KW2.out.onto KD)).mono ?_; rintro e w7 ⟨rfl, kw7⟩)
    have K7 : Kept w6.heap.size w6.heap.size w6 w7 := KD.trans (kw7.mono KD.size (fun i hi _ => Nat.ne_of_lt (Nat.lt_of_lt_of_le hi KD.size)))
    refine hK.out _ _ (K7) (fun hH => ?_)
    clear hK K
    refine wpAnyH_take_ex (i := 1) 23 rfl rfl (by kernel_rfl) (by kernel_rfl) (by kernel_rfl) (fun _ _ _ _ h => h) (by kernel_rfl) hH ?_
    apply Exists.intro
    apply And.intro
    · intro w9 _
      go_simp
      first | done | rfl
    simp only [List.setIfInBounds_toArray, List.set_cons_zero, List.set_cons_succ]
    refine wpAnyH_take_at (i := 2) 24 (.agg DS) rfl rfl (by kernel_rfl) (by kernel_rfl) (by kernel_rfl) (fun _ _ _ h => h) (yieldsIf_load_known (by kernel_rfl) 27 _ rfl (bs) (0) rfl (.agg DS) (LS.out)) hH ?_
    simp only [List.setIfInBounds_toArray, List.set_cons_zero, List.set_cons_succ]
    refine wpAnyH_take_at (i := 3) 25 (.agg DP) rfl rfl (by kernel_rfl) (by kernel_rfl) (by kernel_rfl) (fun _ _ _ h => h) (yieldsIf_load_known (by kernel_rfl) 27 _ rfl (bp) (0) rfl (.agg DP) (LP2.out)) hH ?_
    simp only [List.setIfInBounds_toArray, List.set_cons_zero, List.set_cons_succ]
    refine wpAnyH_take_at (i := 4) 26 (.agg kc) rfl rfl (by kernel_rfl) (by kernel_rfl) (by kernel_rfl) (fun _ _ _ h => h) (yieldsIf_load_known (by kernel_rfl) 23 _ rfl (bk) (0) rfl (.agg kc) (LK2.out)) hH ?_
    simp only [List.setIfInBounds_toArray, List.set_cons_zero, List.set_cons_succ]
    refine wpAnyH_ready (rs := [5]) (by kernel_rfl) (by simp) ?_
    refine AllReadyH.cons rfl (fun K hK => ?_) AllReadyH.nil
    rw [if_pos (by rfl)]
    go_simp
    go_wp2_with (go_at_call 19; refine (HRS.out _).mono ?_; rintro e w8 ⟨rfl, kw8⟩)
    have K8 : Kept w6.heap.size w6.heap.size w6 w8 := K7.trans (kw8.mono K7.size (fun i hi _ => Nat.ne_of_lt (Nat.lt_of_lt_of_le hi K7.size)))
    refine hK.out _ _ (K8) (fun hH => ?_)
    clear hK K
    refine wpAnyH_take_at (i := 6) 28 (.bool true) rfl rfl (by kernel_rfl) (by kernel_rfl) (by kernel_rfl) (fun _ _ _ h => h) (yieldsIf_eql10 (by kernel_rfl) _ _ _ _ rfl (DS) (DS) rfl rfl cgGuard (true) (HES.out)) hH ?_
    simp only [List.setIfInBounds_toArray, List.set_cons_zero, List.set_cons_succ]
    refine wpAnyH_take_ex (i := 7) 29 rfl rfl (by kernel_rfl) (by kernel_rfl) (by kernel_rfl) (fun _ _ _ _ h => h) (by kernel_rfl) hH ?_
    apply Exists.intro
    apply And.intro
    · intro w9 _
      go_simp
      first | done | rfl
    simp only [List.setIfInBounds_toArray, List.set_cons_zero, List.set_cons_succ]
    refine wpAnyH_take_ex (i := 8) 30 rfl rfl (by kernel_rfl) (by kernel_rfl) (by kernel_rfl) (fun _ _ _ _ h => h) (by kernel_rfl) hH ?_
    apply Exists.intro
    apply And.intro
    · intro w9 _
      go_simp
      first | done | rfl
    simp only [List.setIfInBounds_toArray, List.set_cons_zero, List.set_cons_succ]
    refine wpAnyH_take_at (i := 9) 31 (.agg DS) rfl rfl (by kernel_rfl) (by kernel_rfl) (by kernel_rfl) (fun _ _ _ h => h) (yieldsIf_load_known (by kernel_rfl) 27 _ rfl (bs) (0) rfl (.agg DS) (LS.out)) hH ?_
    simp only [List.setIfInBounds_toArray, List.set_cons_zero, List.set_cons_succ]
    refine wpAnyH_take_at (i := 10) 32 (.agg kc) rfl rfl (by kernel_rfl) (by kernel_rfl) (by kernel_rfl) (fun _ _ _ h => h) (yieldsIf_load_known (by kernel_rfl) 23 _ rfl (bk) (0) rfl (.agg kc) (LK2.out)) hH ?_
    simp only [List.setIfInBounds_toArray, List.set_cons_zero, List.set_cons_succ]
    refine wpAnyH_ready (rs := [11]) (by kernel_rfl) (by simp) ?_
    refine AllReadyH.cons rfl (fun K hK => ?_) AllReadyH.nil
    rw [if_pos (by rfl)]
    go_simp
    go_wp2_with (go_at_call 20; refine (HVE.out _).mono ?_; rintro e w9 ⟨rfl, kw9⟩)
    have K9 : Kept w6.heap.size w6.heap.size w6 w9 := K8.trans (kw9.mono K8.size (fun i hi _ => Nat.ne_of_lt (Nat.lt_of_lt_of_le hi K8.size)))
    refine hK.out _ _ (K9) (fun hH => ?_)
    clear hK K
    refine wpAnyH_ready (rs := [12]) (by kernel_rfl) (by simp) ?_
    refine AllReadyH.cons rfl (fun K hK => ?_) AllReadyH.nil
    rw [if_pos (by rfl)]
    go_simp
    go_wp2_with (go_at_call 13; refine (HCV.out _ (KW2.out.onto K9)).mono ?_; rintro e wa ⟨rfl, kwa⟩)
    have Ka : Kept w6.heap.size w6.heap.size w6 wa := K9.trans (kwa.mono K9.size (fun i hi _ => Nat.ne_of_lt (Nat.lt_of_lt_of_le hi K9.size)))
    refine hK.out _ _ (Ka) (fun hH => ?_)
    clear hK K
    refine wpAnyH_take_ex (i := 13) 35 rfl rfl (by kernel_rfl) (by kernel_rfl) (by kernel_rfl) (fun _ _ _ _ h => h) (by kernel_rfl) hH ?_
    apply Exists.intro
    apply And.intro
    · intro w9 _
      go_simp
      first | done | rfl
    simp only [List.setIfInBounds_toArray, List.set_cons_zero, List.set_cons_succ]
    refine wpAnyH_take_ex (i := 14) 36 rfl rfl (by kernel_rfl) (by kernel_rfl) (by kernel_rfl) (fun _ _ _ _ h => h) (by kernel_rfl) hH ?_
    apply Exists.intro
    apply And.intro
    · intro w9 _
      go_simp
      first | done | rfl
    simp only [List.setIfInBounds_toArray, List.set_cons_zero, List.set_cons_succ]
    refine wpAnyH_take_at (i := 15) 37 (.agg DS) rfl rfl (by kernel_rfl) (by kernel_rfl) (by kernel_rfl) (fun _ _ _ h => h) (yieldsIf_load_known (by kernel_rfl) 27 _ rfl (bs) (0) rfl (.agg DS) (LS.out)) hH ?_
    simp only [List.setIfInBounds_toArray, List.set_cons_zero, List.set_cons_succ]
    refine wpAnyH_take_at (i := 16) 38 (.agg oc) rfl rfl (by kernel_rfl) (by kernel_rfl) (by kernel_rfl) (fun _ _ _ h => h) (yieldsIf_load_known (by kernel_rfl) 23 _ rfl (bo) (0) rfl (.agg oc) (LO2.out)) hH ?_
    simp only [List.setIfInBounds_toArray, List.set_cons_zero, List.set_cons_succ]
    refine wpAnyH_take_at (i := 18) 40 (.agg DS) rfl rfl (by kernel_rfl) (by kernel_rfl) (by kernel_rfl) (fun _ _ _ h => h) (yieldsIf_load_known (by kernel_rfl) 27 _ rfl (bs) (0) rfl (.agg DS) (LS.out)) hH ?_
    simp only [List.setIfInBounds_toArray, List.set_cons_zero, List.set_cons_succ]
    refine wpAnyH_take_at (i := 19) 41 (.agg oc) rfl rfl (by kernel_rfl) (by kernel_rfl) (by kernel_rfl) (fun _ _ _ h => h) (yieldsIf_load_known (by kernel_rfl) 23 _ rfl (bo) (0) rfl (.agg oc) (LO2.out)) hH ?_
    simp only [List.setIfInBounds_toArray, List.set_cons_zero, List.set_cons_succ]
    refine wpAnyH_ready (rs := [17]) (by kernel_rfl) (by simp) ?_
    refine AllReadyH.cons rfl (fun K hK => ?_) AllReadyH.nil
    rw [if_pos (by rfl)]
    go_simp
    go_wp2_with (go_at_call 13; refine (HCO.out _ (KW2.out.onto Ka)).mono ?_; rintro e wb ⟨rfl, kwb⟩)
    have Kb : Kept w6.heap.size w6.heap.size w6 wb := Ka.trans (kwb.mono Ka.size (fun i hi _ => Nat.ne_of_lt (Nat.lt_of_lt_of_le hi Ka.size)))
    refine hK.out _ _ (Kb) (fun hH => ?_)
    clear hK K
    refine wpAnyH_ready (rs := [20]) (by kernel_rfl) (by simp) ?_
    refine AllReadyH.cons rfl (fun K hK => ?_) AllReadyH.nil
    rw [if_pos (by rfl)]
    go_simp
    go_wp2_with (go_at_call 14; refine (HRC.out _).mono ?_; rintro e wc ⟨rfl, kwc⟩)
    have Kc : Kept w6.heap.size w6.heap.size w6 wc := Kb.trans (kwc.mono Kb.size (fun i hi _ => Nat.ne_of_lt (Nat.lt_of_lt_of_le hi Kb.size)))
    refine hK.out _ _ (Kc) (fun hH => ?_)
    clear hK K
    refine wpAnyH_take_ex (i := 21) 43 rfl rfl (by kernel_rfl) (by kernel_rfl) (by kernel_rfl) (fun _ _ _ _ h => h) (by kernel_rfl) hH ?_
    apply Exists.intro
    apply And.intro
    · intro w9 _
      go_simp
      first | done | rfl
    simp only [List.setIfInBounds_toArray, List.set_cons_zero, List.set_cons_succ]
    refine wpAnyH_take_ex (i := 22) 44 rfl rfl (by kernel_rfl) (by kernel_rfl) (by kernel_rfl) (fun _ _ _ _ h => h) (by kernel_rfl) hH ?_
    apply Exists.intro
    apply And.intro
    · intro w9 _
      go_simp
      first | done | rfl
    simp only [List.setIfInBounds_toArray, List.set_cons_zero, List.set_cons_succ]
    refine wpAnyH_take_ex (i := 23) 6 rfl rfl (by kernel_rfl) (by kernel_rfl) (by kernel_rfl) (fun _ _ _ _ h => h) (by kernel_rfl) hH ?_
    apply Exists.intro
    apply And.intro
    · intro w9 _
      go_simp
      first | done | rfl
    simp only [List.setIfInBounds_toArray, List.set_cons_zero, List.set_cons_succ]
    refine wpAnyH_done (by kernel_rfl) ?_ _
    refine NoPanic.normal ?_
    go_wp2
    go_ret
    exact ⟨rfl, KW2.out.onto Kc⟩

end Go.Proofs.YtcjcomeakkjiiaaDoor
