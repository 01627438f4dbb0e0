/-
  The law ChangeOne.
-/
import Derived.Test.YtcjcomeakkjiiaaDoorIE

namespace Go.Proofs.YtcjcomeakkjiiaaDoor
open Go.RowKit Go.Lib

set_option maxRecDepth 100000 in
set_option maxHeartbeats 12800000 in
theorem changeone_walk (p q : Cg) (hp : p.Ok) (hq : q.Ok) (k : List UInt8) (hk : k.length = 32) (u : List UInt8) (hu : u.length = 32) (w : World) (htab : Tab w) : Calls Tryd.prog 3 #[.agg p.cells.toArray, .agg q.cells.toArray, .agg (bcells k).toArray, .agg (bcells u).toArray] w fun e w' => e = .returned (.bool true) ∧ Kept w.heap.size w.heap.size w w' := by
  have hsk := Cm.signed_ok hp (Pm.ver k)
  have HAW := Lib.hid (fun (x : World) (kk : Kept w.heap.size w.heap.size w x) => change_awake x (htab.onto kk))
  have HRI := Lib.hid (fun x => right_calls10 p hp x)
  have HRR := Lib.hid (fun x => refright_calls10 p hp x)
  have HPQ := Lib.hid (fun x => less_calls10 p q hp hq x)
  have HRPQ := Lib.hid (fun x => refless_calls10 p q hp hq x)
  have HQP := Lib.hid (fun x => less_calls10 q p hq hp x)
  have HRQP := Lib.hid (fun x => refless_calls10 q p hq hp x)
  have HCK := Lib.hid (fun (x : World) (kk : Kept w.heap.size w.heap.size w x) => check_calls10 p hp u hu x (htab.onto kk))
  have HRC := Lib.hid (fun x => refcheck_calls10 p hp u hu x)
  have HSB0 := Lib.hid (fun (h : Cm.right p = false) (x : World) => sign_bad10 p hp k hk h x)
  have HIB0 := Lib.hid (fun (h : Cm.right p = false) (x : World) => id_bad10 p hp h x)
  have HPB0 := Lib.hid (fun (h : Cm.right p = false) (x : World) => pack_bad10 p hp h x)
  have HSG0 := Lib.hid (fun (h : Cm.right p = true) (x : World) (kk : Kept w.heap.size w.heap.size w x) => sign_ok10 p hp k hk h x (htab.onto kk))
  have HRS0 := Lib.hid (fun (h : Cm.right p = true) (x : World) => refsign_calls10 p hp k hk h x)
  have HVE := Lib.hid (fun x => verify_calls10 k hk x)
  have HCV0 := Lib.hid (fun (h : Cm.right p = true) (x : World) (kk : Kept w.heap.size w.heap.size w x) => by
    have := check_calls10 (Cm.signed p (Pm.ver k)) hsk (Pm.ver k) (Pm.ver_length _) x (htab.onto kk)
    rw [Cm.checks_signed h] at this
    exact this)
  have HID0 := Lib.hid (fun (h : Cm.right p = true) (x : World) (kk : Kept w.heap.size w.heap.size w x) => id_ok10 p hp h x (htab.onto kk))
  have HRD0 := Lib.hid (fun (h : Cm.right p = true) (x : World) => refid_calls10 p hp h x)
  have HPK0 := Lib.hid (fun (h : Cm.right p = true) (x : World) (kk : Kept w.heap.size w.heap.size w x) => pack_ok10 p hp h x (htab.onto kk))
  have HRP0 := Lib.hid (fun (h : Cm.right p = true) (x : World) => refpack_calls10 p hp h x)
  have HPS0 := Lib.hid (fun (h : Cm.right p = true) (x : World) (kk : Kept w.heap.size w.heap.size w x) => pack_ok10 (Cm.signed p (Pm.ver k)) hsk (by rw [Cm.right_signed]; exact h) x (htab.onto kk))
  have HUN0 := Lib.hid (fun (h : Cm.right p = true) (x : World) (kk : Kept w.heap.size w.heap.size w x) => by
    have := unpack_calls10 (str (Cm.packed (Cm.signed p (Pm.ver k)))) x (htab.onto kk)
    rw [str_back, (Cm.un_packed hsk (by rw [Cm.right_signed]; exact h)).1, (Cm.un_packed hsk (by rw [Cm.right_signed]; exact h)).2] at this
    exact this)
  have HEP := Lib.hid (fun x => cg_equalIn x p hp)
  have HES := Lib.hid (fun x => cg_equalIn x (Cm.signed p (Pm.ver k)) hsk)
  have HEZ := Lib.hid (fun x => mac_equalIn x Cm.z32 rfl)
  have HEI := Lib.hid (fun x => mac_equalIn x (Cm.id p) (Cm.id_length p))
  have HB0 := Lib.hid build_hash0
  have HSI := Lib.hid (cgInfo (Cg.size hsk))
  have HSZ := Lib.hid (show Cm.zero.cells.toArray.size = (Cm.signed p (Pm.ver k)).cells.toArray.size by rw [Cg.size hsk, Cg.size Cm.zero_ok])
  have HSA := Lib.hid (Cm.signed p (Pm.ver k)).all
  have HLP := Lib.hid (fun (x : World) (b : Nat) (h : x.heap[b]? = some (.cells p.cells.toArray 27 (0, 0))) => load_cg h hp)
  have HLQ := Lib.hid (fun (x : World) (b : Nat) (h : x.heap[b]? = some (.cells q.cells.toArray 27 (0, 0))) => load_cg h hq)
  have HLS := Lib.hid (fun (x : World) (b : Nat) (h : x.heap[b]? = some (.cells (Cm.signed p (Pm.ver k)).cells.toArray 27 (0, 0))) => load_cg h hsk)
  have HLK := Lib.hid (fun (x : World) (b : Nat) (h : x.heap[b]? = some (.cells (bcells k).toArray 23 (0, 0))) => load_row_hash hk h)
  have HLO := Lib.hid (fun (x : World) (b : Nat) (h : x.heap[b]? = some (.cells (bcells u).toArray 23 (0, 0))) => load_row_hash hu h)
  obtain ⟨c1, hc1⟩ : ∃ t, t = Cm.less p q := ⟨_, rfl⟩
  obtain ⟨c2, hc2⟩ : ∃ t, t = Cm.less q p := ⟨_, rfl⟩
  obtain ⟨c3, hc3⟩ : ∃ t, t = Cm.checks p u := ⟨_, rfl⟩
  obtain ⟨DS, hDS⟩ : ∃ D, D = (Cm.signed p (Pm.ver k)).cells.toArray := ⟨_, rfl⟩
  obtain ⟨tS, htS⟩ : ∃ D, D = str (Cm.packed (Cm.signed p (Pm.ver k))) := ⟨_, rfl⟩
  obtain ⟨tP, htP⟩ : ∃ D, D = str (Cm.packed p) := ⟨_, rfl⟩
  obtain ⟨ic, hic⟩ : ∃ D, D = (bcells (Cm.id p)).toArray := ⟨_, rfl⟩
  obtain ⟨zc, hzc⟩ : ∃ D, D = (bcells Cm.z32).toArray := ⟨_, rfl⟩
  obtain ⟨vc, hvc⟩ : ∃ D, D = (bcells (Pm.ver k)).toArray := ⟨_, rfl⟩
  obtain ⟨DP, hDP⟩ : ∃ D, D = p.cells.toArray := ⟨_, rfl⟩
  obtain ⟨DQ, hDQ⟩ : ∃ D, D = q.cells.toArray := ⟨_, rfl⟩
  obtain ⟨kc, hkc⟩ : ∃ D, D = (bcells k).toArray := ⟨_, rfl⟩
  obtain ⟨oc, hoc⟩ : ∃ D, D = (bcells u).toArray := ⟨_, rfl⟩
  rw [← hc1] at HPQ HRPQ
  rw [← hc2] at HQP HRQP
  rw [← hc3] at HCK HRC
  rw [← hDS] at HSG0 HRS0 HCV0 HPS0 HUN0 HES HSI HSZ HSA HLS
  rw [← htS] at HPS0 HUN0
  rw [← htP] at HPK0 HRP0
  rw [← hic] at HID0 HRD0 HEI
  rw [← hzc] at HIB0 HEZ HB0
  rw [← hvc] at HVE HCV0
  rw [← hDP] at HRI HRR HPQ HRPQ HQP HRQP HCK HRC HSB0 HIB0 HPB0 HSG0 HRS0 HID0 HRD0 HPK0 HRP0 HEP HLP ⊢
  rw [← hDQ] at HPQ HRPQ HQP HRQP HLQ ⊢
  rw [← hkc] at HSB0 HSG0 HRS0 HVE HLK ⊢
  rw [← hoc] at HCK HRC HLO ⊢
  clear hc1 hc2 hc3 hDS htS htP hic hzc hvc hDP hDQ hkc hoc hsk hp hq hk hu htab
  go_enter Tryd.func3, Tryd.ntmps3
  go_upto_region 0 with fail
  refine wp_region_lit ?_
  refine @BigFrame.wpList_want _ _ _ _ _ _ _ ?hw81022 ?_
  case hw81022 => kernel_rfl
  intro K hK
  go_simp
  refine hK _ _ ?_
  clear hK K
  have knw1 : Kept w.heap.size w.heap.size w (w.alloc (.cells DP 27)) := (Kept.refl _ _ _).alloc (Nat.le_refl _) _
  have rnw1 := heap_new w (.cells DP 27)
  have Kw1 := knw1
  generalize w.alloc (.cells DP 27) = w1 at knw1 rnw1 Kw1  ⊢
  obtain ⟨bp, hbp⟩ : ∃ n, n = w.heap.size := ⟨_, rfl⟩
  rw [← hbp] at rnw1
  (try rw [← hbp])
  clear hbp knw1
  have rbp := rnw1
  clear rnw1
  refine @BigFrame.wpList_want _ _ _ _ _ _ _ ?hw81023 ?_
  case hw81023 => kernel_rfl
  intro K hK
  go_simp
  refine hK _ _ ?_
  clear hK K
  have knw2 : Kept w1.heap.size w1.heap.size w1 (w1.alloc (.cells DQ 27)) := (Kept.refl _ _ _).alloc (Nat.le_refl _) _
  have rnw2 := heap_new w1 (.cells DQ 27)
  have rbpw2 := row_kept rbp knw2
  have Kw2 := Kw1.onto knw2
  generalize w1.alloc (.cells DQ 27) = w2 at knw2 rnw2 Kw2 rbpw2 ⊢
  obtain ⟨bq, hbq⟩ : ∃ n, n = w1.heap.size := ⟨_, rfl⟩
  rw [← hbq] at rnw2
  (try rw [← hbq])
  clear hbq knw2
  clear rbp
  have rbp := rbpw2
  clear rbpw2
  have rbq := rnw2
  clear rnw2
  refine @BigFrame.wpList_want _ _ _ _ _ _ _ ?hw81024 ?_
  case hw81024 => kernel_rfl
  intro K hK
  go_simp
  refine hK _ _ ?_
  clear hK K
  have knw3 : Kept w2.heap.size w2.heap.size w2 (w2.alloc (.cells kc 23)) := (Kept.refl _ _ _).alloc (Nat.le_refl _) _
  have rnw3 := heap_new w2 (.cells kc 23)
  have rbpw3 := row_kept rbp knw3
  have rbqw3 := row_kept rbq knw3
  have Kw3 := Kw2.onto knw3
  generalize w2.alloc (.cells kc 23) = w3 at knw3 rnw3 Kw3 rbpw3 rbqw3 ⊢
  obtain ⟨bk, hbk⟩ : ∃ n, n = w2.heap.size := ⟨_, rfl⟩
  rw [← hbk] at rnw3
  (try rw [← hbk])
  clear hbk knw3
  clear rbp
  have rbp := rbpw3
  clear rbpw3
  clear rbq
  have rbq := rbqw3
  clear rbqw3
  have rbk := rnw3
  clear rnw3
  refine @BigFrame.wpList_want _ _ _ _ _ _ _ ?hw81025 ?_
  case hw81025 => kernel_rfl
  intro K hK
  go_simp
  refine hK _ _ ?_
  clear hK K
  have knw4 : Kept w3.heap.size w3.heap.size w3 (w3.alloc (.cells oc 23)) := (Kept.refl _ _ _).alloc (Nat.le_refl _) _
  have rnw4 := heap_new w3 (.cells oc 23)
  have rbpw4 := row_kept rbp knw4
  have rbqw4 := row_kept rbq knw4
  have rbkw4 := row_kept rbk knw4
  have Kw4 := Kw3.onto knw4
  generalize w3.alloc (.cells oc 23) = w4 at knw4 rnw4 Kw4 rbpw4 rbqw4 rbkw4 ⊢
  obtain ⟨bo, hbo⟩ : ∃ n, n = w3.heap.size := ⟨_, rfl⟩
  rw [← hbo] at rnw4
  (try rw [← hbo])
  clear hbo knw4
  clear rbp
  have rbp := rbpw4
  clear rbpw4
  clear rbq
  have rbq := rbqw4
  clear rbqw4
  clear rbk
  have rbk := rbkw4
  clear rbkw4
  have rbo := rnw4
  clear rnw4
  refine @BigFrame.wpList_want _ _ _ _ _ _ _ ?hw81026 ?_
  case hw81026 => kernel_rfl
  intro K hK
  go_simp
  refine hK _ _ ?_
  clear hK K
  have LP := Lib.hid (fun (x : World) (k : Kept w4.heap.size w4.heap.size w4 x) => HLP.out x bp (row_kept rbp k))
  have LQ := Lib.hid (fun (x : World) (k : Kept w4.heap.size w4.heap.size w4 x) => HLQ.out x bq (row_kept rbq k))
  have LK := Lib.hid (fun (x : World) (k : Kept w4.heap.size w4.heap.size w4 x) => HLK.out x bk (row_kept rbk k))
  have LO := Lib.hid (fun (x : World) (k : Kept w4.heap.size w4.heap.size w4 x) => HLO.out x bo (row_kept rbo k))
  have KW := Lib.hid Kw4
  have KD : Kept w4.heap.size w4.heap.size w4 w4.drew := (Kept.refl _ _ _).drew
  clear rbp rbq rbk rbo Kw1 Kw2 Kw3 Kw4 HLP HLQ HLK HLO
  cases hr : Cm.right p
  · rw [hr] at HRI HRR
    have HSB := Lib.hid (HSB0.out hr)
    have HIB := Lib.hid (HIB0.out hr)
    have HPB := Lib.hid (HPB0.out hr)
    clear HSB0 HIB0 HPB0 HSG0 HRS0 HCV0 HID0 HRD0 HPK0 HRP0 HPS0 HUN0 hr HES HEI HSI HSZ HSA HLS HVE
    go_upto_region 1 with fail
    refine wp_region_noPanic ?_
    refine wp_region_held_drew (S := fun w' => Kept w4.heap.size w4.heap.size w4 w') (by kernel_rfl) ((Kept.refl _ _ _).drew) (fun hH => ?_)
    refine wpAnyH_ready (rs := [0]) (by kernel_rfl) (by simp) ?_
    refine AllReadyH.cons rfl (fun K hK => ?_) AllReadyH.nil
    rw [if_pos (by rfl)]
    go_simp
    go_wp2_with (go_at_call 8; refine (HAW.out _ (KW.out.onto KD)).mono ?_; rintro e x1 ⟨rfl, kx1⟩)
    have X1 : Kept w4.heap.size w4.heap.size w4 x1 := KD.trans (kx1.mono KD.size (fun i hi _ => Nat.ne_of_lt (Nat.lt_of_lt_of_le hi KD.size)))
    refine hK.out _ _ (X1) (fun hH => ?_)
    clear hK K
    refine wpAnyH_take_ex (i := 1) 13 rfl rfl (by kernel_rfl) (by kernel_rfl) (by kernel_rfl) (fun _ _ _ _ h => h) (by kernel_rfl) hH ?_
    apply Exists.intro
    apply And.intro
    · intro w9 _
      go_simp
      first | done | rfl
    simp only [List.setIfInBounds_toArray, List.set_cons_zero, List.set_cons_succ]
    refine wpAnyH_take_ex (i := 2) 14 rfl rfl (by kernel_rfl) (by kernel_rfl) (by kernel_rfl) (fun _ _ _ _ h => h) (by kernel_rfl) hH ?_
    apply Exists.intro
    apply And.intro
    · intro w9 _
      go_simp
      first | done | rfl
    simp only [List.setIfInBounds_toArray, List.set_cons_zero, List.set_cons_succ]
    refine wpAnyH_take_at (i := 3) 15 (.agg DP) rfl rfl (by kernel_rfl) (by kernel_rfl) (by kernel_rfl) (fun _ _ _ h => h) (yieldsIf_load_known (by kernel_rfl) 27 _ rfl (bp) (0) rfl (.agg DP) (LP.out)) hH ?_
    simp only [List.setIfInBounds_toArray, List.set_cons_zero, List.set_cons_succ]
    refine wpAnyH_take_at (i := 5) 17 (.agg DP) rfl rfl (by kernel_rfl) (by kernel_rfl) (by kernel_rfl) (fun _ _ _ h => h) (yieldsIf_load_known (by kernel_rfl) 27 _ rfl (bp) (0) rfl (.agg DP) (LP.out)) hH ?_
    simp only [List.setIfInBounds_toArray, List.set_cons_zero, List.set_cons_succ]
    refine wpAnyH_ready (rs := [4]) (by kernel_rfl) (by simp) ?_
    refine AllReadyH.cons rfl (fun K hK => ?_) AllReadyH.nil
    rw [if_pos (by rfl)]
    go_simp
    go_wp2_with (go_at_call 9; refine (HRI.out _).mono ?_; rintro e x2 ⟨rfl, kx2⟩)
    have X2 : Kept w4.heap.size w4.heap.size w4 x2 := X1.trans (kx2.mono X1.size (fun i hi _ => Nat.ne_of_lt (Nat.lt_of_lt_of_le hi X1.size)))
    refine hK.out _ _ (X2) (fun hH => ?_)
    clear hK K
    refine wpAnyH_ready (rs := [6]) (by kernel_rfl) (by simp) ?_
    refine AllReadyH.cons rfl (fun K hK => ?_) AllReadyH.nil
    rw [if_pos (by rfl)]
    go_simp
    go_wp2_with (go_at_call 10; refine (HRR.out _).mono ?_; rintro e x3 ⟨rfl, kx3⟩)
    have X3 : Kept w4.heap.size w4.heap.size w4 x3 := X2.trans (kx3.mono X2.size (fun i hi _ => Nat.ne_of_lt (Nat.lt_of_lt_of_le hi X2.size)))
    refine hK.out _ _ (X3) (fun hH => ?_)
    clear hK K
    refine wpAnyH_take_ex (i := 7) 19 rfl rfl (by kernel_rfl) (by kernel_rfl) (by kernel_rfl) (fun _ _ _ _ h => h) (by kernel_rfl) hH ?_
    apply Exists.intro
    apply And.intro
    · intro w9 _
      go_simp
      first | done | rfl
    simp only [List.setIfInBounds_toArray, List.set_cons_zero, List.set_cons_succ]
    refine wpAnyH_take_ex (i := 8) 20 rfl rfl (by kernel_rfl) (by kernel_rfl) (by kernel_rfl) (fun _ _ _ _ h => h) (by kernel_rfl) hH ?_
    apply Exists.intro
    apply And.intro
    · intro w9 _
      go_simp
      first | done | rfl
    simp only [List.setIfInBounds_toArray, List.set_cons_zero, List.set_cons_succ]
    refine wpAnyH_take_ex (i := 9) 21 rfl rfl (by kernel_rfl) (by kernel_rfl) (by kernel_rfl) (fun _ _ _ _ h => h) (by kernel_rfl) hH ?_
    apply Exists.intro
    apply And.intro
    · intro w9 _
      go_simp
      first | done | rfl
    simp only [List.setIfInBounds_toArray, List.set_cons_zero, List.set_cons_succ]
    refine wpAnyH_take_at (i := 10) 22 (.agg DP) rfl rfl (by kernel_rfl) (by kernel_rfl) (by kernel_rfl) (fun _ _ _ h => h) (yieldsIf_load_known (by kernel_rfl) 27 _ rfl (bp) (0) rfl (.agg DP) (LP.out)) hH ?_
    simp only [List.setIfInBounds_toArray, List.set_cons_zero, List.set_cons_succ]
    refine wpAnyH_take_at (i := 11) 23 (.agg DQ) rfl rfl (by kernel_rfl) (by kernel_rfl) (by kernel_rfl) (fun _ _ _ h => h) (yieldsIf_load_known (by kernel_rfl) 27 _ rfl (bq) (0) rfl (.agg DQ) (LQ.out)) hH ?_
    simp only [List.setIfInBounds_toArray, List.set_cons_zero, List.set_cons_succ]
    refine wpAnyH_take_at (i := 13) 25 (.agg DP) rfl rfl (by kernel_rfl) (by kernel_rfl) (by kernel_rfl) (fun _ _ _ h => h) (yieldsIf_load_known (by kernel_rfl) 27 _ rfl (bp) (0) rfl (.agg DP) (LP.out)) hH ?_
    simp only [List.setIfInBounds_toArray, List.set_cons_zero, List.set_cons_succ]
    refine wpAnyH_take_at (i := 14) 26 (.agg DQ) rfl rfl (by kernel_rfl) (by kernel_rfl) (by kernel_rfl) (fun _ _ _ h => h) (yieldsIf_load_known (by kernel_rfl) 27 _ rfl (bq) (0) rfl (.agg DQ) (LQ.out)) hH ?_
    simp only [List.setIfInBounds_toArray, List.set_cons_zero, List.set_cons_succ]
    refine wpAnyH_ready (rs := [12]) (by kernel_rfl) (by simp) ?_
    refine AllReadyH.cons rfl (fun K hK => ?_) AllReadyH.nil
    rw [if_pos (by rfl)]
    go_simp
    go_wp2_with (go_at_call 11; refine (HPQ.out _).mono ?_; rintro e x4 ⟨rfl, kx4⟩)
    have X4 : Kept w4.heap.size w4.heap.size w4 x4 := X3.trans (kx4.mono X3.size (fun i hi _ => Nat.ne_of_lt (Nat.lt_of_lt_of_le hi X3.size)))
    refine hK.out _ _ (X4) (fun hH => ?_)
    clear hK K
    refine wpAnyH_ready (rs := [15]) (by kernel_rfl) (by simp) ?_
    refine AllReadyH.cons rfl (fun K hK => ?_) AllReadyH.nil
    rw [if_pos (by rfl)]
    go_simp
    go_wp2_with (go_at_call 12; refine (HRPQ.out _).mono ?_; rintro e x5 ⟨rfl, kx5⟩)
    have X5 : Kept w4.heap.size w4.heap.size w4 x5 := X4.trans (kx5.mono X4.size (fun i hi _ => Nat.ne_of_lt (Nat.lt_of_lt_of_le hi X4.size)))
    refine hK.out _ _ (X5) (fun hH => ?_)
    clear hK K
    refine wpAnyH_take_ex (i := 16) 28 rfl rfl (by kernel_rfl) (by kernel_rfl) (by kernel_rfl) (fun _ _ _ _ h => h) (by kernel_rfl) hH ?_
    apply Exists.intro
    apply And.intro
    · intro w9 _
      go_simp
      first | done | rfl
    simp only [List.setIfInBounds_toArray, List.set_cons_zero, List.set_cons_succ]
    refine wpAnyH_take_ex (i := 17) 29 rfl rfl (by kernel_rfl) (by kernel_rfl) (by kernel_rfl) (fun _ _ _ _ h => h) (by kernel_rfl) hH ?_
    apply Exists.intro
    apply And.intro
    · intro w9 _
      go_simp
      first | done | rfl
    simp only [List.setIfInBounds_toArray, List.set_cons_zero, List.set_cons_succ]
    refine wpAnyH_take_ex (i := 18) 30 rfl rfl (by kernel_rfl) (by kernel_rfl) (by kernel_rfl) (fun _ _ _ _ h => h) (by kernel_rfl) hH ?_
    apply Exists.intro
    apply And.intro
    · intro w9 _
      go_simp
      first | done | rfl
    simp only [List.setIfInBounds_toArray, List.set_cons_zero, List.set_cons_succ]
    refine wpAnyH_take_at (i := 19) 31 (.agg DQ) rfl rfl (by kernel_rfl) (by kernel_rfl) (by kernel_rfl) (fun _ _ _ h => h) (yieldsIf_load_known (by kernel_rfl) 27 _ rfl (bq) (0) rfl (.agg DQ) (LQ.out)) hH ?_
    simp only [List.setIfInBounds_toArray, List.set_cons_zero, List.set_cons_succ]
    refine wpAnyH_take_at (i := 20) 32 (.agg DP) rfl rfl (by kernel_rfl) (by kernel_rfl) (by kernel_rfl) (fun _ _ _ h => h) (yieldsIf_load_known (by kernel_rfl) 27 _ rfl (bp) (0) rfl (.agg DP) (LP.out)) hH ?_
    simp only [List.setIfInBounds_toArray, List.set_cons_zero, List.set_cons_succ]
    refine wpAnyH_take_at (i := 22) 34 (.agg DQ) rfl rfl (by kernel_rfl) (by kernel_rfl) (by kernel_rfl) (fun _ _ _ h => h) (yieldsIf_load_known (by kernel_rfl) 27 _ rfl (bq) (0) rfl (.agg DQ) (LQ.out)) hH ?_
    simp only [List.setIfInBounds_toArray, List.set_cons_zero, List.set_cons_succ]
    refine wpAnyH_take_at (i := 23) 35 (.agg DP) rfl rfl (by kernel_rfl) (by kernel_rfl) (by kernel_rfl) (fun _ _ _ h => h) (yieldsIf_load_known (by kernel_rfl) 27 _ rfl (bp) (0) rfl (.agg DP) (LP.out)) hH ?_
    simp only [List.setIfInBounds_toArray, List.set_cons_zero, List.set_cons_succ]
    refine wpAnyH_ready (rs := [21]) (by kernel_rfl) (by simp) ?_
    refine AllReadyH.cons rfl (fun K hK => ?_) AllReadyH.nil
    rw [if_pos (by rfl)]
    go_simp
    go_wp2_with (go_at_call 11; refine (HQP.out _).mono ?_; rintro e x6 ⟨rfl, kx6⟩)
    have X6 : Kept w4.heap.size w4.heap.size w4 x6 := X5.trans (kx6.mono X5.size (fun i hi _ => Nat.ne_of_lt (Nat.lt_of_lt_of_le hi X5.size)))
    refine hK.out _ _ (X6) (fun hH => ?_)
    clear hK K
    refine wpAnyH_ready (rs := [24]) (by kernel_rfl) (by simp) ?_
    refine AllReadyH.cons rfl (fun K hK => ?_) AllReadyH.nil
    rw [if_pos (by rfl)]
    go_simp
    go_wp2_with (go_at_call 12; refine (HRQP.out _).mono ?_; rintro e x7 ⟨rfl, kx7⟩)
    have X7 : Kept w4.heap.size w4.heap.size w4 x7 := X6.trans (kx7.mono X6.size (fun i hi _ => Nat.ne_of_lt (Nat.lt_of_lt_of_le hi X6.size)))
    refine hK.out _ _ (X7) (fun hH => ?_)
    clear hK K
    refine wpAnyH_take_ex (i := 25) 37 rfl rfl (by kernel_rfl) (by kernel_rfl) (by kernel_rfl) (fun _ _ _ _ h => h) (by kernel_rfl) hH ?_
    apply Exists.intro
    apply And.intro
    · intro w9 _
      go_simp
      first | done | rfl
    simp only [List.setIfInBounds_toArray, List.set_cons_zero, List.set_cons_succ]
    refine wpAnyH_take_ex (i := 26) 38 rfl rfl (by kernel_rfl) (by kernel_rfl) (by kernel_rfl) (fun _ _ _ _ h => h) (by kernel_rfl) hH ?_
    apply Exists.intro
    apply And.intro
    · intro w9 _
      go_simp
      first | done | rfl
    simp only [List.setIfInBounds_toArray, List.set_cons_zero, List.set_cons_succ]
    refine wpAnyH_take_ex (i := 27) 39 rfl rfl (by kernel_rfl) (by kernel_rfl) (by kernel_rfl) (fun _ _ _ _ h => h) (by kernel_rfl) hH ?_
    apply Exists.intro
    apply And.intro
    · intro w9 _
      go_simp
      first | done | rfl
    simp only [List.setIfInBounds_toArray, List.set_cons_zero, List.set_cons_succ]
    refine wpAnyH_take_at (i := 28) 40 (.agg DP) rfl rfl (by kernel_rfl) (by kernel_rfl) (by kernel_rfl) (fun _ _ _ h => h) (yieldsIf_load_known (by kernel_rfl) 27 _ rfl (bp) (0) rfl (.agg DP) (LP.out)) hH ?_
    simp only [List.setIfInBounds_toArray, List.set_cons_zero, List.set_cons_succ]
    refine wpAnyH_take_at (i := 29) 41 (.agg oc) rfl rfl (by kernel_rfl) (by kernel_rfl) (by kernel_rfl) (fun _ _ _ h => h) (yieldsIf_load_known (by kernel_rfl) 23 _ rfl (bo) (0) rfl (.agg oc) (LO.out)) hH ?_
    simp only [List.setIfInBounds_toArray, List.set_cons_zero, List.set_cons_succ]
    refine wpAnyH_take_at (i := 31) 43 (.agg DP) rfl rfl (by kernel_rfl) (by kernel_rfl) (by kernel_rfl) (fun _ _ _ h => h) (yieldsIf_load_known (by kernel_rfl) 27 _ rfl (bp) (0) rfl (.agg DP) (LP.out)) hH ?_
    simp only [List.setIfInBounds_toArray, List.set_cons_zero, List.set_cons_succ]
    refine wpAnyH_take_at (i := 32) 44 (.agg oc) rfl rfl (by kernel_rfl) (by kernel_rfl) (by kernel_rfl) (fun _ _ _ h => h) (yieldsIf_load_known (by kernel_rfl) 23 _ rfl (bo) (0) rfl (.agg oc) (LO.out)) hH ?_
    simp only [List.setIfInBounds_toArray, List.set_cons_zero, List.set_cons_succ]
    refine wpAnyH_ready (rs := [30]) (by kernel_rfl) (by simp) ?_
    refine AllReadyH.cons rfl (fun K hK => ?_) AllReadyH.nil
    rw [if_pos (by rfl)]
    go_simp
    go_wp2_with (go_at_call 13; refine (HCK.out _ (KW.out.onto X7)).mono ?_; rintro e x8 ⟨rfl, kx8⟩)
    have X8 : Kept w4.heap.size w4.heap.size w4 x8 := X7.trans (kx8.mono X7.size (fun i hi _ => Nat.ne_of_lt (Nat.lt_of_lt_of_le hi X7.size)))
    refine hK.out _ _ (X8) (fun hH => ?_)
    clear hK K
    refine wpAnyH_ready (rs := [33]) (by kernel_rfl) (by simp) ?_
    refine AllReadyH.cons rfl (fun K hK => ?_) AllReadyH.nil
    rw [if_pos (by rfl)]
    go_simp
    go_wp2_with (go_at_call 14; refine (HRC.out _).mono ?_; rintro e x9 ⟨rfl, kx9⟩)
    have X9 : Kept w4.heap.size w4.heap.size w4 x9 := X8.trans (kx9.mono X8.size (fun i hi _ => Nat.ne_of_lt (Nat.lt_of_lt_of_le hi X8.size)))
    refine hK.out _ _ (X9) (fun hH => ?_)
    clear hK K
    refine wpAnyH_take_ex (i := 34) 46 rfl rfl (by kernel_rfl) (by kernel_rfl) (by kernel_rfl) (fun _ _ _ _ h => h) (by kernel_rfl) hH ?_
    apply Exists.intro
    apply And.intro
    · intro w9 _
      go_simp
      first | done | rfl
    simp only [List.setIfInBounds_toArray, List.set_cons_zero, List.set_cons_succ]
    refine wpAnyH_take_ex (i := 35) 47 rfl rfl (by kernel_rfl) (by kernel_rfl) (by kernel_rfl) (fun _ _ _ _ h => h) (by kernel_rfl) hH ?_
    apply Exists.intro
    apply And.intro
    · intro w9 _
      go_simp
      first | done | rfl
    simp only [List.setIfInBounds_toArray, List.set_cons_zero, List.set_cons_succ]
    refine wpAnyH_done (by kernel_rfl) ?_ _
    refine NoPanic.normal ?_
    go_upto_region 3 with fail
    refine wp_region_lit ?_
    refine @wpList_load_known _ _ _ _ _ _ _ ?hw81028 27 (.tmp 4) rfl (bp) (0) rfl (.agg DP) (LP.out _ X9) ?_
    case hw81028 => kernel_rfl
    simp only [Act.put, List.setIfInBounds_toArray, List.set_cons_zero, List.set_cons_succ]
    refine @BigFrame.wpList_want _ _ _ _ _ _ _ ?hw81027 ?_
    case hw81027 => kernel_rfl
    intro K hK
    go_simp
    go_at_call 10
    refine (HRR.out _).mono ?_
    rintro e y1 ⟨rfl, ky1⟩
    have Y1 : Kept w4.heap.size w4.heap.size w4 y1 := X9.onto ky1
    refine hK _ _ ?_
    clear hK K
    refine @BigFrame.wpList_want _ _ _ _ _ _ _ ?hw81029 ?_
    case hw81029 => kernel_rfl
    intro K hK
    go_simp
    refine hK _ _ ?_
    clear hK K
    have YD : Kept w4.heap.size w4.heap.size w4 y1.drew := Y1.drew
    go_upto_region 4 with fail
    refine wp_region_noPanic ?_
    refine wp_region_held_drew (S := fun w' => Kept w4.heap.size w4.heap.size w4 w') (by kernel_rfl) (YD) (fun hH => ?_)
    refine wpAnyH_take_at (i := 0) 51 (.agg DP) rfl rfl (by kernel_rfl) (by kernel_rfl) (by kernel_rfl) (fun _ _ _ h => h) (yieldsIf_load_known (by kernel_rfl) 27 _ rfl (bp) (0) rfl (.agg DP) (LP.out)) hH ?_
    simp only [List.setIfInBounds_toArray, List.set_cons_zero, List.set_cons_succ]
    refine wpAnyH_take_at (i := 1) 52 (.agg kc) rfl rfl (by kernel_rfl) (by kernel_rfl) (by kernel_rfl) (fun _ _ _ h => h) (yieldsIf_load_known (by kernel_rfl) 23 _ rfl (bk) (0) rfl (.agg kc) (LK.out)) hH ?_
    simp only [List.setIfInBounds_toArray, List.set_cons_zero, List.set_cons_succ]
    refine wpAnyH_take_at (i := 3) 54 (.agg DP) rfl rfl (by kernel_rfl) (by kernel_rfl) (by kernel_rfl) (fun _ _ _ h => h) (yieldsIf_load_known (by kernel_rfl) 27 _ rfl (bp) (0) rfl (.agg DP) (LP.out)) hH ?_
    simp only [List.setIfInBounds_toArray, List.set_cons_zero, List.set_cons_succ]
    refine wpAnyH_ready (rs := [2]) (by kernel_rfl) (by simp) ?_
    refine AllReadyH.cons rfl (fun K hK => ?_) AllReadyH.nil
    rw [if_pos (by rfl)]
    go_simp
    go_wp2_with (go_at_call 15; refine (HSB.out _).mono ?_; rintro e y2 ⟨rfl, ky2⟩)
    have Y2 : Kept w4.heap.size w4.heap.size w4 y2 := YD.trans (ky2.mono YD.size (fun i hi _ => Nat.ne_of_lt (Nat.lt_of_lt_of_le hi YD.size)))
    refine hK.out _ _ (Y2) (fun hH => ?_)
    clear hK K
    refine wpAnyH_take_at (i := 4) 55 (.bool true) rfl rfl (by kernel_rfl) (by kernel_rfl) (by kernel_rfl) (fun _ _ _ h => h) (yieldsIf_eql10 (by kernel_rfl) _ _ _ _ rfl (DP) (DP) rfl rfl cgGuard (true) (HEP.out)) hH ?_
    simp only [List.setIfInBounds_toArray, List.set_cons_zero, List.set_cons_succ]
    refine wpAnyH_take_ex (i := 5) 56 rfl rfl (by kernel_rfl) (by kernel_rfl) (by kernel_rfl) (fun _ _ _ _ h => h) (by kernel_rfl) hH ?_
    apply Exists.intro
    apply And.intro
    · intro w9 _
      go_simp
      first | done | rfl
    simp only [List.setIfInBounds_toArray, List.set_cons_zero, List.set_cons_succ]
    refine wpAnyH_take_at (i := 6) 57 (.agg DP) rfl rfl (by kernel_rfl) (by kernel_rfl) (by kernel_rfl) (fun _ _ _ h => h) (yieldsIf_load_known (by kernel_rfl) 27 _ rfl (bp) (0) rfl (.agg DP) (LP.out)) hH ?_
    simp only [List.setIfInBounds_toArray, List.set_cons_zero, List.set_cons_succ]
    refine wpAnyH_take_at (i := 8) 59 (.agg zc) rfl rfl (by kernel_rfl) (by kernel_rfl) (by kernel_rfl) (fun _ _ _ h => h) (yieldsIf_build0 (by kernel_rfl) _ rfl _ HB0.out) hH ?_
    simp only [List.setIfInBounds_toArray, List.set_cons_zero, List.set_cons_succ]
    refine wpAnyH_ready (rs := [7]) (by kernel_rfl) (by simp) ?_
    refine AllReadyH.cons rfl (fun K hK => ?_) AllReadyH.nil
    rw [if_pos (by rfl)]
    go_simp
    go_wp2_with (go_at_call 16; refine (HIB.out _).mono ?_; rintro e y3 ⟨rfl, ky3⟩)
    have Y3 : Kept w4.heap.size w4.heap.size w4 y3 := Y2.trans (ky3.mono Y2.size (fun i hi _ => Nat.ne_of_lt (Nat.lt_of_lt_of_le hi Y2.size)))
    refine hK.out _ _ (Y3) (fun hH => ?_)
    clear hK K
    refine wpAnyH_take_at (i := 9) 60 (.bool true) rfl rfl (by kernel_rfl) (by kernel_rfl) (by kernel_rfl) (fun _ _ _ h => h) (yieldsIf_eql10 (by kernel_rfl) _ _ _ _ rfl (zc) (zc) rfl rfl macGuard25 (true) (HEZ.out)) hH ?_
    simp only [List.setIfInBounds_toArray, List.set_cons_zero, List.set_cons_succ]
    refine wpAnyH_take_ex (i := 10) 61 rfl rfl (by kernel_rfl) (by kernel_rfl) (by kernel_rfl) (fun _ _ _ _ h => h) (by kernel_rfl) hH ?_
    apply Exists.intro
    apply And.intro
    · intro w9 _
      go_simp
      first | done | rfl
    simp only [List.setIfInBounds_toArray, List.set_cons_zero, List.set_cons_succ]
    refine wpAnyH_take_ex (i := 11) 62 rfl rfl (by kernel_rfl) (by kernel_rfl) (by kernel_rfl) (fun _ _ _ _ h => h) (by kernel_rfl) hH ?_
    apply Exists.intro
    apply And.intro
    · intro w9 _
      go_simp
      first | done | rfl
    simp only [List.setIfInBounds_toArray, List.set_cons_zero, List.set_cons_succ]
    refine wpAnyH_take_at (i := 12) 63 (.agg DP) rfl rfl (by kernel_rfl) (by kernel_rfl) (by kernel_rfl) (fun _ _ _ h => h) (yieldsIf_load_known (by kernel_rfl) 27 _ rfl (bp) (0) rfl (.agg DP) (LP.out)) hH ?_
    simp only [List.setIfInBounds_toArray, List.set_cons_zero, List.set_cons_succ]
    refine wpAnyH_ready (rs := [13]) (by kernel_rfl) (by simp) ?_
    refine AllReadyH.cons rfl (fun K hK => ?_) AllReadyH.nil
    rw [if_pos (by rfl)]
    go_simp
    go_wp2_with (go_at_call 17; refine (HPB.out _).mono ?_; rintro e y4 ⟨rfl, ky4⟩)
    have Y4 : Kept w4.heap.size w4.heap.size w4 y4 := Y3.trans (ky4.mono Y3.size (fun i hi _ => Nat.ne_of_lt (Nat.lt_of_lt_of_le hi Y3.size)))
    refine hK.out _ _ (Y4) (fun hH => ?_)
    clear hK K
    refine wpAnyH_take_ex (i := 14) 65 rfl rfl (by kernel_rfl) (by kernel_rfl) (by kernel_rfl) (fun _ _ _ _ h => h) (by kernel_rfl) hH ?_
    apply Exists.intro
    apply And.intro
    · intro w9 _
      go_simp
      first | done | rfl
    simp only [List.setIfInBounds_toArray, List.set_cons_zero, List.set_cons_succ]
    refine wpAnyH_take_ex (i := 15) 66 rfl rfl (by kernel_rfl) (by kernel_rfl) (by kernel_rfl) (fun _ _ _ _ h => h) (by kernel_rfl) hH ?_
    apply Exists.intro
    apply And.intro
    · intro w9 _
      go_simp
      first | done | rfl
    simp only [List.setIfInBounds_toArray, List.set_cons_zero, List.set_cons_succ]
    refine wpAnyH_take_ex (i := 16) 8 rfl rfl (by kernel_rfl) (by kernel_rfl) (by kernel_rfl) (fun _ _ _ _ h => h) (by kernel_rfl) hH ?_
    apply Exists.intro
    apply And.intro
    · intro w9 _
      go_simp
      first | done | rfl
    simp only [List.setIfInBounds_toArray, List.set_cons_zero, List.set_cons_succ]
    refine wpAnyH_done (by kernel_rfl) ?_ _
    refine NoPanic.normal ?_
    go_wp2
    go_ret
    exact ⟨rfl, KW.out.onto Y4⟩
  · rw [hr] at HRI HRR
    have HSG := Lib.hid (HSG0.out hr)
    have HRS := Lib.hid (HRS0.out hr)
    have HCV := Lib.hid (HCV0.out hr)
    have HID := Lib.hid (HID0.out hr)
    have HRD := Lib.hid (HRD0.out hr)
    have HPK := Lib.hid (HPK0.out hr)
    have HRP := Lib.hid (HRP0.out hr)
    have HPS := Lib.hid (HPS0.out hr)
    have HUN := Lib.hid (HUN0.out hr)
    clear HSB0 HIB0 HPB0 HSG0 HRS0 HCV0 HID0 HRD0 HPK0 HRP0 HPS0 HUN0 hr HEP HEZ HB0
    go_upto_region 1 with fail
    refine wp_region_noPanic ?_
    refine wp_region_held_drew (S := fun w' => Kept w4.heap.size w4.heap.size w4 w') (by kernel_rfl) ((Kept.refl _ _ _).drew) (fun hH => ?_)
    refine wpAnyH_ready (rs := [0]) (by kernel_rfl) (by simp) ?_
    refine AllReadyH.cons rfl (fun K hK => ?_) AllReadyH.nil
    rw [if_pos (by rfl)]
    go_simp
    go_wp2_with (go_at_call 8; refine (HAW.out _ (KW.out.onto KD)).mono ?_; rintro e x1 ⟨rfl, kx1⟩)
    have X1 : Kept w4.heap.size w4.heap.size w4 x1 := KD.trans (kx1.mono KD.size (fun i hi _ => Nat.ne_of_lt (Nat.lt_of_lt_of_le hi KD.size)))
    refine hK.out _ _ (X1) (fun hH => ?_)
    clear hK K
    refine wpAnyH_take_ex (i := 1) 13 rfl rfl (by kernel_rfl) (by kernel_rfl) (by kernel_rfl) (fun _ _ _ _ h => h) (by kernel_rfl) hH ?_
    apply Exists.intro
    apply And.intro
    · intro w9 _
      go_simp
      first | done | rfl
    simp only [List.setIfInBounds_toArray, List.set_cons_zero, List.set_cons_succ]
    refine wpAnyH_take_ex (i := 2) 14 rfl rfl (by kernel_rfl) (by kernel_rfl) (by kernel_rfl) (fun _ _ _ _ h => h) (by kernel_rfl) hH ?_
    apply Exists.intro
    apply And.intro
    · intro w9 _
      go_simp
      first | done | rfl
    simp only [List.setIfInBounds_toArray, List.set_cons_zero, List.set_cons_succ]
    refine wpAnyH_take_at (i := 3) 15 (.agg DP) rfl rfl (by kernel_rfl) (by kernel_rfl) (by kernel_rfl) (fun _ _ _ h => h) (yieldsIf_load_known (by kernel_rfl) 27 _ rfl (bp) (0) rfl (.agg DP) (LP.out)) hH ?_
    simp only [List.setIfInBounds_toArray, List.set_cons_zero, List.set_cons_succ]
    refine wpAnyH_take_at (i := 5) 17 (.agg DP) rfl rfl (by kernel_rfl) (by kernel_rfl) (by kernel_rfl) (fun _ _ _ h => h) (yieldsIf_load_known (by kernel_rfl) 27 _ rfl (bp) (0) rfl (.agg DP) (LP.out)) hH ?_
    simp only [List.setIfInBounds_toArray, List.set_cons_zero, List.set_cons_succ]
    refine wpAnyH_ready (rs := [4]) (by kernel_rfl) (by simp) ?_
    refine AllReadyH.cons rfl (fun K hK => ?_) AllReadyH.nil
    rw [if_pos (by rfl)]
    go_simp
    go_wp2_with (go_at_call 9; refine (HRI.out _).mono ?_; rintro e x2 ⟨rfl, kx2⟩)
    have X2 : Kept w4.heap.size w4.heap.size w4 x2 := X1.trans (kx2.mono X1.size (fun i hi _ => Nat.ne_of_lt (Nat.lt_of_lt_of_le hi X1.size)))
    refine hK.out _ _ (X2) (fun hH => ?_)
    clear hK K
    refine wpAnyH_ready (rs := [6]) (by kernel_rfl) (by simp) ?_
    refine AllReadyH.cons rfl (fun K hK => ?_) AllReadyH.nil
    rw [if_pos (by rfl)]
    go_simp
    go_wp2_with (go_at_call 10; refine (HRR.out _).mono ?_; rintro e x3 ⟨rfl, kx3⟩)
    have X3 : Kept w4.heap.size w4.heap.size w4 x3 := X2.trans (kx3.mono X2.size (fun i hi _ => Nat.ne_of_lt (Nat.lt_of_lt_of_le hi X2.size)))
    refine hK.out _ _ (X3) (fun hH => ?_)
    clear hK K
    refine wpAnyH_take_ex (i := 7) 19 rfl rfl (by kernel_rfl) (by kernel_rfl) (by kernel_rfl) (fun _ _ _ _ h => h) (by kernel_rfl) hH ?_
    apply Exists.intro
    apply And.intro
    · intro w9 _
      go_simp
      first | done | rfl
    simp only [List.setIfInBounds_toArray, List.set_cons_zero, List.set_cons_succ]
    refine wpAnyH_take_ex (i := 8) 20 rfl rfl (by kernel_rfl) (by kernel_rfl) (by kernel_rfl) (fun _ _ _ _ h => h) (by kernel_rfl) hH ?_
    apply Exists.intro
    apply And.intro
    · intro w9 _
      go_simp
      first | done | rfl
    simp only [List.setIfInBounds_toArray, List.set_cons_zero, List.set_cons_succ]
    refine wpAnyH_take_ex (i := 9) 21 rfl rfl (by kernel_rfl) (by kernel_rfl) (by kernel_rfl) (fun _ _ _ _ h => h) (by kernel_rfl) hH ?_
    apply Exists.intro
    apply And.intro
    · intro w9 _
      go_simp
      first | done | rfl
    simp only [List.setIfInBounds_toArray, List.set_cons_zero, List.set_cons_succ]
    refine wpAnyH_take_at (i := 10) 22 (.agg DP) rfl rfl (by kernel_rfl) (by kernel_rfl) (by kernel_rfl) (fun _ _ _ h => h) (yieldsIf_load_known (by kernel_rfl) 27 _ rfl (bp) (0) rfl (.agg DP) (LP.out)) hH ?_
    simp only [List.setIfInBounds_toArray, List.set_cons_zero, List.set_cons_succ]
    refine wpAnyH_take_at (i := 11) 23 (.agg DQ) rfl rfl (by kernel_rfl) (by kernel_rfl) (by kernel_rfl) (fun _ _ _ h => h) (yieldsIf_load_known (by kernel_rfl) 27 _ rfl (bq) (0) rfl (.agg DQ) (LQ.out)) hH ?_
    simp only [List.setIfInBounds_toArray, List.set_cons_zero, List.set_cons_succ]
    refine wpAnyH_take_at (i := 13) 25 (.agg DP) rfl rfl (by kernel_rfl) (by kernel_rfl) (by kernel_rfl) (fun _ _ _ h => h) (yieldsIf_load_known (by kernel_rfl) 27 _ rfl (bp) (0) rfl (.agg DP) (LP.out)) hH ?_
    simp only [List.setIfInBounds_toArray, List.set_cons_zero, List.set_cons_succ]
    refine wpAnyH_take_at (i := 14) 26 (.agg DQ) rfl rfl (by kernel_rfl) (by kernel_rfl) (by kernel_rfl) (fun _ _ _ h => h) (yieldsIf_load_known (by kernel_rfl) 27 _ rfl (bq) (0) rfl (.agg DQ) (LQ.out)) hH ?_
    simp only [List.setIfInBounds_toArray, List.set_cons_zero, List.set_cons_succ]
    refine wpAnyH_ready (rs := [12]) (by kernel_rfl) (by simp) ?_
    refine AllReadyH.cons rfl (fun K hK => ?_) AllReadyH.nil
    rw [if_pos (by rfl)]
    go_simp
    go_wp2_with (go_at_call 11; refine (HPQ.out _).mono ?_; rintro e x4 ⟨rfl, kx4⟩)
    have X4 : Kept w4.heap.size w4.heap.size w4 x4 := X3.trans (kx4.mono X3.size (fun i hi _ => Nat.ne_of_lt (Nat.lt_of_lt_of_le hi X3.size)))
    refine hK.out _ _ (X4) (fun hH => ?_)
    clear hK K
    refine wpAnyH_ready (rs := [15]) (by kernel_rfl) (by simp) ?_
    refine AllReadyH.cons rfl (fun K hK => ?_) AllReadyH.nil
    rw [if_pos (by rfl)]
    go_simp
    go_wp2_with (go_at_call 12; refine (HRPQ.out _).mono ?_; rintro e x5 ⟨rfl, kx5⟩)
    have X5 : Kept w4.heap.size w4.heap.size w4 x5 := X4.trans (kx5.mono X4.size (fun i hi _ => Nat.ne_of_lt (Nat.lt_of_lt_of_le hi X4.size)))
    refine hK.out _ _ (X5) (fun hH => ?_)
    clear hK K
    refine wpAnyH_take_ex (i := 16) 28 rfl rfl (by kernel_rfl) (by kernel_rfl) (by kernel_rfl) (fun _ _ _ _ h => h) (by kernel_rfl) hH ?_
    apply Exists.intro
    apply And.intro
    · intro w9 _
      go_simp
      first | done | rfl
    simp only [List.setIfInBounds_toArray, List.set_cons_zero, List.set_cons_succ]
    refine wpAnyH_take_ex (i := 17) 29 rfl rfl (by kernel_rfl) (by kernel_rfl) (by kernel_rfl) (fun _ _ _ _ h => h) (by kernel_rfl) hH ?_
    apply Exists.intro
    apply And.intro
    · intro w9 _
      go_simp
      first | done | rfl
    simp only [List.setIfInBounds_toArray, List.set_cons_zero, List.set_cons_succ]
    refine wpAnyH_take_ex (i := 18) 30 rfl rfl (by kernel_rfl) (by kernel_rfl) (by kernel_rfl) (fun _ _ _ _ h => h) (by kernel_rfl) hH ?_
    apply Exists.intro
    apply And.intro
    · intro w9 _
      go_simp
      first | done | rfl
    simp only [List.setIfInBounds_toArray, List.set_cons_zero, List.set_cons_succ]
    refine wpAnyH_take_at (i := 19) 31 (.agg DQ) rfl rfl (by kernel_rfl) (by kernel_rfl) (by kernel_rfl) (fun _ _ _ h => h) (yieldsIf_load_known (by kernel_rfl) 27 _ rfl (bq) (0) rfl (.agg DQ) (LQ.out)) hH ?_
    simp only [List.setIfInBounds_toArray, List.set_cons_zero, List.set_cons_succ]
    refine wpAnyH_take_at (i := 20) 32 (.agg DP) rfl rfl (by kernel_rfl) (by kernel_rfl) (by kernel_rfl) (fun _ _ _ h => h) (yieldsIf_load_known (by kernel_rfl) 27 _ rfl (bp) (0) rfl (.agg DP) (LP.out)) hH ?_
    simp only [List.setIfInBounds_toArray, List.set_cons_zero, List.set_cons_succ]
    refine wpAnyH_take_at (i := 22) 34 (.agg DQ) rfl rfl (by kernel_rfl) (by kernel_rfl) (by kernel_rfl) (fun _ _ _ h => h) (yieldsIf_load_known (by kernel_rfl) 27 _ rfl (bq) (0) rfl (.agg DQ) (LQ.out)) hH ?_
    simp only [List.setIfInBounds_toArray, List.set_cons_zero, List.set_cons_succ]
    refine wpAnyH_take_at (i := 23) 35 (.agg DP) rfl rfl (by kernel_rfl) (by kernel_rfl) (by kernel_rfl) (fun _ _ _ h => h) (yieldsIf_load_known (by kernel_rfl) 27 _ rfl (bp) (0) rfl (.agg DP) (LP.out)) hH ?_
    simp only [List.setIfInBounds_toArray, List.set_cons_zero, List.set_cons_succ]
    refine wpAnyH_ready (rs := [21]) (by kernel_rfl) (by simp) ?_
    refine AllReadyH.cons rfl (fun K hK => ?_) AllReadyH.nil
    rw [if_pos (by rfl)]
    go_simp
    go_wp2_with (go_at_call 11; refine (HQP.out _).mono ?_; rintro e x6 ⟨rfl, kx6⟩)
    have X6 : Kept w4.heap.size w4.heap.size w4 x6 := X5.trans (kx6.mono X5.size (fun i hi _ => Nat.ne_of_lt (Nat.lt_of_lt_of_le hi X5.size)))
    refine hK.out _ _ (X6) (fun hH => ?_)
    clear hK K
    refine wpAnyH_ready (rs := [24]) (by kernel_rfl) (by simp) ?_
    refine AllReadyH.cons rfl (fun K hK => ?_) AllReadyH.nil
    rw [if_pos (by rfl)]
    go_simp
    go_wp2_with (go_at_call 12; refine (HRQP.out _).mono ?_; rintro e x7 ⟨rfl, kx7⟩)
    have X7 : Kept w4.heap.size w4.heap.size w4 x7 := X6.trans (kx7.mono X6.size (fun i hi _ => Nat.ne_of_lt (Nat.lt_of_lt_of_le hi X6.size)))
    refine hK.out _ _ (X7) (fun hH => ?_)
    clear hK K
    refine wpAnyH_take_ex (i := 25) 37 rfl rfl (by kernel_rfl) (by kernel_rfl) (by kernel_rfl) (fun _ _ _ _ h => h) (by kernel_rfl) hH ?_
    apply Exists.intro
    apply And.intro
    · intro w9 _
      go_simp
      first | done | rfl
    simp only [List.setIfInBounds_toArray, List.set_cons_zero, List.set_cons_succ]
    refine wpAnyH_take_ex (i := 26) 38 rfl rfl (by kernel_rfl) (by kernel_rfl) (by kernel_rfl) (fun _ _ _ _ h => h) (by kernel_rfl) hH ?_
    apply Exists.intro
    apply And.intro
    · intro w9 _
      go_simp
      first | done | rfl
    simp only [List.setIfInBounds_toArray, List.set_cons_zero, List.set_cons_succ]
    refine wpAnyH_take_ex (i := 27) 39 rfl rfl (by kernel_rfl) (by kernel_rfl) (by kernel_rfl) (fun _ _ _ _ h => h) (by kernel_rfl) hH ?_
    apply Exists.intro
    apply And.intro
    · intro w9 _
      go_simp
      first | done | rfl
    simp only [List.setIfInBounds_toArray, List.set_cons_zero, List.set_cons_succ]
    refine wpAnyH_take_at (i := 28) 40 (.agg DP) rfl rfl (by kernel_rfl) (by kernel_rfl) (by kernel_rfl) (fun _ _ _ h => h) (yieldsIf_load_known (by kernel_rfl) 27 _ rfl (bp) (0) rfl (.agg DP) (LP.out)) hH ?_
    simp only [List.setIfInBounds_toArray, List.set_cons_zero, List.set_cons_succ]
    refine wpAnyH_take_at (i := 29) 41 (.agg oc) rfl rfl (by kernel_rfl) (by kernel_rfl) (by kernel_rfl) (fun _ _ _ h => h) (yieldsIf_load_known (by kernel_rfl) 23 _ rfl (bo) (0) rfl (.agg oc) (LO.out)) hH ?_
    simp only [List.setIfInBounds_toArray, List.set_cons_zero, List.set_cons_succ]
    refine wpAnyH_take_at (i := 31) 43 (.agg DP) rfl rfl (by kernel_rfl) (by kernel_rfl) (by kernel_rfl) (fun _ _ _ h => h) (yieldsIf_load_known (by kernel_rfl) 27 _ rfl (bp) (0) rfl (.agg DP) (LP.out)) hH ?_
    simp only [List.setIfInBounds_toArray, List.set_cons_zero, List.set_cons_succ]
    refine wpAnyH_take_at (i := 32) 44 (.agg oc) rfl rfl (by kernel_rfl) (by kernel_rfl) (by kernel_rfl) (fun _ _ _ h => h) (yieldsIf_load_known (by kernel_rfl) 23 _ rfl (bo) (0) rfl (.agg oc) (LO.out)) hH ?_
    simp only [List.setIfInBounds_toArray, List.set_cons_zero, List.set_cons_succ]
    refine wpAnyH_ready (rs := [30]) (by kernel_rfl) (by simp) ?_
    refine AllReadyH.cons rfl (fun K hK => ?_) AllReadyH.nil
    rw [if_pos (by rfl)]
    go_simp
    go_wp2_with (go_at_call 13; refine (HCK.out _ (KW.out.onto X7)).mono ?_; rintro e x8 ⟨rfl, kx8⟩)
    have X8 : Kept w4.heap.size w4.heap.size w4 x8 := X7.trans (kx8.mono X7.size (fun i hi _ => Nat.ne_of_lt (Nat.lt_of_lt_of_le hi X7.size)))
    refine hK.out _ _ (X8) (fun hH => ?_)
    clear hK K
    refine wpAnyH_ready (rs := [33]) (by kernel_rfl) (by simp) ?_
    refine AllReadyH.cons rfl (fun K hK => ?_) AllReadyH.nil
    rw [if_pos (by rfl)]
    go_simp
    go_wp2_with (go_at_call 14; refine (HRC.out _).mono ?_; rintro e x9 ⟨rfl, kx9⟩)
    have X9 : Kept w4.heap.size w4.heap.size w4 x9 := X8.trans (kx9.mono X8.size (fun i hi _ => Nat.ne_of_lt (Nat.lt_of_lt_of_le hi X8.size)))
    refine hK.out _ _ (X9) (fun hH => ?_)
    clear hK K
    refine wpAnyH_take_ex (i := 34) 46 rfl rfl (by kernel_rfl) (by kernel_rfl) (by kernel_rfl) (fun _ _ _ _ h => h) (by kernel_rfl) hH ?_
    apply Exists.intro
    apply And.intro
    · intro w9 _
      go_simp
      first | done | rfl
    simp only [List.setIfInBounds_toArray, List.set_cons_zero, List.set_cons_succ]
    refine wpAnyH_take_ex (i := 35) 47 rfl rfl (by kernel_rfl) (by kernel_rfl) (by kernel_rfl) (fun _ _ _ _ h => h) (by kernel_rfl) hH ?_
    apply Exists.intro
    apply And.intro
    · intro w9 _
      go_simp
      first | done | rfl
    simp only [List.setIfInBounds_toArray, List.set_cons_zero, List.set_cons_succ]
    refine wpAnyH_done (by kernel_rfl) ?_ _
    refine NoPanic.normal ?_
    go_upto_region 3 with fail
    refine wp_region_lit ?_
    refine @wpList_load_known _ _ _ _ _ _ _ ?hw81028 27 (.tmp 4) rfl (bp) (0) rfl (.agg DP) (LP.out _ X9) ?_
    case hw81028 => kernel_rfl
    simp only [Act.put, List.setIfInBounds_toArray, List.set_cons_zero, List.set_cons_succ]
    refine @BigFrame.wpList_want _ _ _ _ _ _ _ ?hw81027 ?_
    case hw81027 => kernel_rfl
    intro K hK
    go_simp
    go_at_call 10
    refine (HRR.out _).mono ?_
    rintro e y1 ⟨rfl, ky1⟩
    have Y1 : Kept w4.heap.size w4.heap.size w4 y1 := X9.onto ky1
    refine hK _ _ ?_
    clear hK K
    refine @BigFrame.wpList_want _ _ _ _ _ _ _ ?hw81029 ?_
    case hw81029 => kernel_rfl
    intro K hK
    go_simp
    refine hK _ _ ?_
    clear hK K
    go_upto_region 5 with fail
    refine wp_region_lit ?_
    refine @wpList_load_known _ _ _ _ _ _ _ ?hw81031 27 (.tmp 4) rfl (bp) (0) rfl (.agg DP) (LP.out _ Y1) ?_
    case hw81031 => kernel_rfl
    simp only [Act.put, List.setIfInBounds_toArray, List.set_cons_zero, List.set_cons_succ]
    refine @wpList_load_known _ _ _ _ _ _ _ ?hw81032 23 (.tmp 6) rfl (bk) (0) rfl (.agg kc) (LK.out _ Y1) ?_
    case hw81032 => kernel_rfl
    simp only [Act.put, List.setIfInBounds_toArray, List.set_cons_zero, List.set_cons_succ]
    refine @BigFrame.wpList_want _ _ _ _ _ _ _ ?hw81030 ?_
    case hw81030 => kernel_rfl
    intro K hK
    go_simp
    go_at_call 15
    refine (HSG.out _ (KW.out.onto Y1)).mono ?_
    rintro e y2 ⟨rfl, ky2⟩
    have Y2 : Kept w4.heap.size w4.heap.size w4 y2 := Y1.onto ky2
    refine hK _ _ ?_
    clear hK K
    refine @wpL_alloc _ _ _ _ _ _ _ _ ?hw81033 27 rfl _ (alloc_cg _) ?_
    case hw81033 => kernel_rfl
    simp only [Act.put, List.setIfInBounds_toArray, List.set_cons_zero, List.set_cons_succ]
    refine wpList_store_row rfl 27 _ _ rfl (y2.heap.size) DS rfl rfl 27 Cm.zero.cells.toArray (heap_new _ _) (HSI.out) (HSZ.out) (HSA.out) ?_
    simp only [Act.put]
    rw [World.setRow_alloc_new]
    have kn : Kept y2.heap.size y2.heap.size y2 (y2.alloc (.cells DS 27)) := (Kept.refl _ _ _).alloc (Nat.le_refl _) _
    have rbs := heap_new y2 (.cells DS 27)
    have Kw5 := Y2.onto kn
    generalize y2.alloc (.cells DS 27) = w5 at kn rbs Kw5  ⊢
    obtain ⟨bs, hbs⟩ : ∃ n, n = y2.heap.size := ⟨_, rfl⟩
    rw [← hbs] at rbs
    (try rw [← hbs])
    clear hbs kn
    have K5 := Lib.hid Kw5
    have RS := Lib.hid rbs
    clear Kw5 rbs Y2 Y1 ky2 ky1
    go_upto_region 6 with fail
    refine wp_region_lit ?_
    refine @wpList_load_known _ _ _ _ _ _ _ ?hw81036 27 (.tmp 9) rfl (bs) (0) rfl (.agg DS) (HLS.out _ _ RS.out) ?_
    case hw81036 => kernel_rfl
    simp only [Act.put, List.setIfInBounds_toArray, List.set_cons_zero, List.set_cons_succ]
    refine @BigFrame.wpList_want _ _ _ _ _ _ _ ?hw81034 ?_
    case hw81034 => kernel_rfl
    intro K hK
    go_simp
    go_at_call 17
    refine (HPS.out _ (KW.out.onto K5.out)).mono ?_
    rintro e y3 ⟨rfl, ky3⟩
    have Y3 : Kept w4.heap.size w4.heap.size w4 y3 := K5.out.onto ky3
    have rs3 := row_kept RS.out ky3
    refine hK _ _ ?_
    clear hK K
    refine @BigFrame.wpList_want _ _ _ _ _ _ _ ?hw81035 ?_
    case hw81035 => kernel_rfl
    intro K hK
    go_simp
    go_at_call 18
    refine (HUN.out _ (KW.out.onto Y3)).mono ?_
    rintro e y4 ⟨rfl, ky4⟩
    have Y4 : Kept w4.heap.size w4.heap.size w4 y4 := Y3.onto ky4
    have rs4 := row_kept rs3 ky4
    refine hK _ _ ?_
    clear hK K
    refine @BigFrame.wpList_want _ _ _ _ _ _ _ ?hw81037 ?_
    case hw81037 => kernel_rfl
    intro K hK
    go_simp
    refine hK _ _ ?_
    clear hK K
    refine @BigFrame.wpList_want _ _ _ _ _ _ _ ?hw81038 ?_
    case hw81038 => kernel_rfl
    intro K hK
    go_simp
    refine hK _ _ ?_
    clear hK K
    refine @BigFrame.wpList_want _ _ _ _ _ _ _ ?hw81039 ?_
    case hw81039 => kernel_rfl
    intro K hK
    go_simp
    refine hK _ _ ?_
    clear hK K
    refine @wpL_alloc _ _ _ _ _ _ _ _ ?hw81040 27 rfl _ (alloc_cg _) ?_
    case hw81040 => kernel_rfl
    simp only [Act.put, List.setIfInBounds_toArray, List.set_cons_zero, List.set_cons_succ]
    refine wpList_store_row rfl 27 _ _ rfl (y4.heap.size) DS rfl rfl 27 Cm.zero.cells.toArray (heap_new _ _) (HSI.out) (HSZ.out) (HSA.out) ?_
    simp only [Act.put]
    rw [World.setRow_alloc_new]
    refine @BigFrame.wpList_want _ _ _ _ _ _ _ ?hw81041 ?_
    case hw81041 => kernel_rfl
    intro K hK
    go_simp
    refine hK _ _ ?_
    clear hK K
    have kn : Kept y4.heap.size y4.heap.size y4 (y4.alloc (.cells DS 27)) := (Kept.refl _ _ _).alloc (Nat.le_refl _) _
    have rbu := heap_new y4 (.cells DS 27)
    have rs4n := row_kept rs4 kn
    have Kw6 := Y4.onto kn
    generalize y4.alloc (.cells DS 27) = w6 at kn rbu Kw6 rs4n ⊢
    obtain ⟨bu, hbu⟩ : ∃ n, n = y4.heap.size := ⟨_, rfl⟩
    rw [← hbu] at rbu
    (try rw [← hbu])
    clear hbu kn
    have K6 := Kw6
    have LS6 := Lib.hid (fun (x : World) (k : Kept w6.heap.size w6.heap.size w6 x) => HLS.out x bs (row_kept rs4n k))
    have LU6 := Lib.hid (fun (x : World) (k : Kept w6.heap.size w6.heap.size w6 x) => HLS.out x bu (row_kept rbu k))
    have LP6 := Lib.hid (fun (x : World) (k : Kept w6.heap.size w6.heap.size w6 x) => LP.out x (K6.onto k))
    have LK6 := Lib.hid (fun (x : World) (k : Kept w6.heap.size w6.heap.size w6 x) => LK.out x (K6.onto k))
    have KW6 := Lib.hid (KW.out.onto K6)
    have GD : Kept w6.heap.size w6.heap.size w6 w6.drew := (Kept.refl _ _ _).drew
    clear rs4 rs4n rbu Kw6 K6 Y4 Y3 rs3 ky3 ky4 K5 RS
    go_upto_region 7 with fail
    refine wp_region_noPanic ?_
    refine wp_region_held_drew (S := fun w' => Kept w6.heap.size w6.heap.size w6 w') (by kernel_rfl) ((Kept.refl _ _ _).drew) (fun hH => ?_)
    refine wpAnyH_take_at (i := 0) 76 (.agg DS) rfl rfl (by kernel_rfl) (by kernel_rfl) (by kernel_rfl) (fun _ _ _ h => h) (yieldsIf_load_known (by kernel_rfl) 27 _ rfl (bs) (0) rfl (.agg DS) (LS6.out)) hH ?_
    simp only [List.setIfInBounds_toArray, List.set_cons_zero, List.set_cons_succ]
    refine wpAnyH_take_at (i := 1) 77 (.agg DP) rfl rfl (by kernel_rfl) (by kernel_rfl) (by kernel_rfl) (fun _ _ _ h => h) (yieldsIf_load_known (by kernel_rfl) 27 _ rfl (bp) (0) rfl (.agg DP) (LP6.out)) hH ?_
    simp only [List.setIfInBounds_toArray, List.set_cons_zero, List.set_cons_succ]
    refine wpAnyH_take_at (i := 2) 78 (.agg kc) rfl rfl (by kernel_rfl) (by kernel_rfl) (by kernel_rfl) (fun _ _ _ h => h) (yieldsIf_load_known (by kernel_rfl) 23 _ rfl (bk) (0) rfl (.agg kc) (LK6.out)) hH ?_
    simp only [List.setIfInBounds_toArray, List.set_cons_zero, List.set_cons_succ]
    refine wpAnyH_ready (rs := [3]) (by kernel_rfl) (by simp) ?_
    refine AllReadyH.cons rfl (fun K hK => ?_) AllReadyH.nil
    rw [if_pos (by rfl)]
    go_simp
    go_wp2_with (go_at_call 19; refine (HRS.out _).mono ?_; rintro e g1 ⟨rfl, kg1⟩)
    have G1 : Kept w6.heap.size w6.heap.size w6 g1 := GD.trans (kg1.mono GD.size (fun i hi _ => Nat.ne_of_lt (Nat.lt_of_lt_of_le hi GD.size)))
    refine hK.out _ _ (G1) (fun hH => ?_)
    clear hK K
    refine wpAnyH_take_at (i := 4) 80 (.bool true) rfl rfl (by kernel_rfl) (by kernel_rfl) (by kernel_rfl) (fun _ _ _ h => h) (yieldsIf_eql10 (by kernel_rfl) _ _ _ _ rfl (DS) (DS) rfl rfl cgGuard (true) (HES.out)) hH ?_
    simp only [List.setIfInBounds_toArray, List.set_cons_zero, List.set_cons_succ]
    refine wpAnyH_take_ex (i := 5) 81 rfl rfl (by kernel_rfl) (by kernel_rfl) (by kernel_rfl) (fun _ _ _ _ h => h) (by kernel_rfl) hH ?_
    apply Exists.intro
    apply And.intro
    · intro w9 _
      go_simp
      first | done | rfl
    simp only [List.setIfInBounds_toArray, List.set_cons_zero, List.set_cons_succ]
    refine wpAnyH_take_at (i := 6) 82 (.agg DS) rfl rfl (by kernel_rfl) (by kernel_rfl) (by kernel_rfl) (fun _ _ _ h => h) (yieldsIf_load_known (by kernel_rfl) 27 _ rfl (bs) (0) rfl (.agg DS) (LS6.out)) hH ?_
    simp only [List.setIfInBounds_toArray, List.set_cons_zero, List.set_cons_succ]
    refine wpAnyH_take_at (i := 7) 83 (.agg kc) rfl rfl (by kernel_rfl) (by kernel_rfl) (by kernel_rfl) (fun _ _ _ h => h) (yieldsIf_load_known (by kernel_rfl) 23 _ rfl (bk) (0) rfl (.agg kc) (LK6.out)) hH ?_
    simp only [List.setIfInBounds_toArray, List.set_cons_zero, List.set_cons_succ]
    refine wpAnyH_ready (rs := [8]) (by kernel_rfl) (by simp) ?_
    refine AllReadyH.cons rfl (fun K hK => ?_) AllReadyH.nil
    rw [if_pos (by rfl)]
    go_simp
    go_wp2_with (go_at_call 20; refine (HVE.out _).mono ?_; rintro e g2 ⟨rfl, kg2⟩)
    have G2 : Kept w6.heap.size w6.heap.size w6 g2 := G1.trans (kg2.mono G1.size (fun i hi _ => Nat.ne_of_lt (Nat.lt_of_lt_of_le hi G1.size)))
    refine hK.out _ _ (G2) (fun hH => ?_)
    clear hK K
    refine wpAnyH_ready (rs := [9]) (by kernel_rfl) (by simp) ?_
    refine AllReadyH.cons rfl (fun K hK => ?_) AllReadyH.nil
    rw [if_pos (by rfl)]
    go_simp
    go_wp2_with (go_at_call 13; refine (HCV.out _ (KW6.out.onto G2)).mono ?_; rintro e g3 ⟨rfl, kg3⟩)
    have G3 : Kept w6.heap.size w6.heap.size w6 g3 := G2.trans (kg3.mono G2.size (fun i hi _ => Nat.ne_of_lt (Nat.lt_of_lt_of_le hi G2.size)))
    refine hK.out _ _ (G3) (fun hH => ?_)
    clear hK K
    refine wpAnyH_take_ex (i := 10) 86 rfl rfl (by kernel_rfl) (by kernel_rfl) (by kernel_rfl) (fun _ _ _ _ h => h) (by kernel_rfl) hH ?_
    apply Exists.intro
    apply And.intro
    · intro w9 _
      go_simp
      first | done | rfl
    simp only [List.setIfInBounds_toArray, List.set_cons_zero, List.set_cons_succ]
    refine wpAnyH_take_ex (i := 11) 87 rfl rfl (by kernel_rfl) (by kernel_rfl) (by kernel_rfl) (fun _ _ _ _ h => h) (by kernel_rfl) hH ?_
    apply Exists.intro
    apply And.intro
    · intro w9 _
      go_simp
      first | done | rfl
    simp only [List.setIfInBounds_toArray, List.set_cons_zero, List.set_cons_succ]
    refine wpAnyH_take_at (i := 12) 88 (.agg DP) rfl rfl (by kernel_rfl) (by kernel_rfl) (by kernel_rfl) (fun _ _ _ h => h) (yieldsIf_load_known (by kernel_rfl) 27 _ rfl (bp) (0) rfl (.agg DP) (LP6.out)) hH ?_
    simp only [List.setIfInBounds_toArray, List.set_cons_zero, List.set_cons_succ]
    refine wpAnyH_take_at (i := 14) 90 (.agg DP) rfl rfl (by kernel_rfl) (by kernel_rfl) (by kernel_rfl) (fun _ _ _ h => h) (yieldsIf_load_known (by kernel_rfl) 27 _ rfl (bp) (0) rfl (.agg DP) (LP6.out)) hH ?_
    simp only [List.setIfInBounds_toArray, List.set_cons_zero, List.set_cons_succ]
    refine wpAnyH_ready (rs := [13]) (by kernel_rfl) (by simp) ?_
    refine AllReadyH.cons rfl (fun K hK => ?_) AllReadyH.nil
    rw [if_pos (by rfl)]
    go_simp
    go_wp2_with (go_at_call 16; refine (HID.out _ (KW6.out.onto G3)).mono ?_; rintro e g4 ⟨rfl, kg4⟩)
    have G4 : Kept w6.heap.size w6.heap.size w6 g4 := G3.trans (kg4.mono G3.size (fun i hi _ => Nat.ne_of_lt (Nat.lt_of_lt_of_le hi G3.size)))
    refine hK.out _ _ (G4) (fun hH => ?_)
    clear hK K
    refine wpAnyH_ready (rs := [15]) (by kernel_rfl) (by simp) ?_
    refine AllReadyH.cons rfl (fun K hK => ?_) AllReadyH.nil
    rw [if_pos (by rfl)]
    go_simp
    go_wp2_with (go_at_call 21; refine (HRD.out _).mono ?_; rintro e g5 ⟨rfl, kg5⟩)
    have G5 : Kept w6.heap.size w6.heap.size w6 g5 := G4.trans (kg5.mono G4.size (fun i hi _ => Nat.ne_of_lt (Nat.lt_of_lt_of_le hi G4.size)))
    refine hK.out _ _ (G5) (fun hH => ?_)
    clear hK K
    refine wpAnyH_take_at (i := 16) 92 (.bool true) rfl rfl (by kernel_rfl) (by kernel_rfl) (by kernel_rfl) (fun _ _ _ h => h) (yieldsIf_eql10 (by kernel_rfl) _ _ _ _ rfl (ic) (ic) rfl rfl macGuard25 (true) (HEI.out)) hH ?_
    simp only [List.setIfInBounds_toArray, List.set_cons_zero, List.set_cons_succ]
    refine wpAnyH_take_ex (i := 17) 93 rfl rfl (by kernel_rfl) (by kernel_rfl) (by kernel_rfl) (fun _ _ _ _ h => h) (by kernel_rfl) hH ?_
    apply Exists.intro
    apply And.intro
    · intro w9 _
      go_simp
      first | done | rfl
    simp only [List.setIfInBounds_toArray, List.set_cons_zero, List.set_cons_succ]
    refine wpAnyH_take_ex (i := 18) 94 rfl rfl (by kernel_rfl) (by kernel_rfl) (by kernel_rfl) (fun _ _ _ _ h => h) (by kernel_rfl) hH ?_
    apply Exists.intro
    apply And.intro
    · intro w9 _
      go_simp
      first | done | rfl
    simp only [List.setIfInBounds_toArray, List.set_cons_zero, List.set_cons_succ]
    refine wpAnyH_take_at (i := 19) 95 (.agg DP) rfl rfl (by kernel_rfl) (by kernel_rfl) (by kernel_rfl) (fun _ _ _ h => h) (yieldsIf_load_known (by kernel_rfl) 27 _ rfl (bp) (0) rfl (.agg DP) (LP6.out)) hH ?_
    simp only [List.setIfInBounds_toArray, List.set_cons_zero, List.set_cons_succ]
    refine wpAnyH_take_at (i := 21) 97 (.agg DP) rfl rfl (by kernel_rfl) (by kernel_rfl) (by kernel_rfl) (fun _ _ _ h => h) (yieldsIf_load_known (by kernel_rfl) 27 _ rfl (bp) (0) rfl (.agg DP) (LP6.out)) hH ?_
    simp only [List.setIfInBounds_toArray, List.set_cons_zero, List.set_cons_succ]
    refine wpAnyH_ready (rs := [20]) (by kernel_rfl) (by simp) ?_
    refine AllReadyH.cons rfl (fun K hK => ?_) AllReadyH.nil
    rw [if_pos (by rfl)]
    go_simp
    go_wp2_with (go_at_call 17; refine (HPK.out _ (KW6.out.onto G5)).mono ?_; rintro e g6 ⟨rfl, kg6⟩)
    have G6 : Kept w6.heap.size w6.heap.size w6 g6 := G5.trans (kg6.mono G5.size (fun i hi _ => Nat.ne_of_lt (Nat.lt_of_lt_of_le hi G5.size)))
    refine hK.out _ _ (G6) (fun hH => ?_)
    clear hK K
    refine wpAnyH_ready (rs := [22]) (by kernel_rfl) (by simp) ?_
    refine AllReadyH.cons rfl (fun K hK => ?_) AllReadyH.nil
    rw [if_pos (by rfl)]
    go_simp
    go_wp2_with (go_at_call 22; refine (HRP.out _).mono ?_; rintro e g7 ⟨rfl, kg7⟩)
    have G7 : Kept w6.heap.size w6.heap.size w6 g7 := G6.trans (kg7.mono G6.size (fun i hi _ => Nat.ne_of_lt (Nat.lt_of_lt_of_le hi G6.size)))
    refine hK.out _ _ (G7) (fun hH => ?_)
    clear hK K
    refine wpAnyH_take_ex (i := 23) 99 rfl rfl (by kernel_rfl) (by kernel_rfl) (by kernel_rfl) (fun _ _ _ _ h => h) (by kernel_rfl) hH ?_
    apply Exists.intro
    apply And.intro
    · intro w9 _
      go_simp
      first | done | rfl
    simp only [List.setIfInBounds_toArray, List.set_cons_zero, List.set_cons_succ]
    refine wpAnyH_take_ex (i := 24) 100 rfl rfl (by kernel_rfl) (by kernel_rfl) (by kernel_rfl) (fun _ _ _ _ h => h) (by kernel_rfl) hH ?_
    apply Exists.intro
    apply And.intro
    · intro w9 _
      go_simp
      first | done | rfl
    simp only [List.setIfInBounds_toArray, List.set_cons_zero, List.set_cons_succ]
    refine wpAnyH_take_ex (i := 25) 101 rfl rfl (by kernel_rfl) (by kernel_rfl) (by kernel_rfl) (fun _ _ _ _ h => h) (by kernel_rfl) hH ?_
    apply Exists.intro
    apply And.intro
    · intro w9 _
      go_simp
      first | done | rfl
    simp only [List.setIfInBounds_toArray, List.set_cons_zero, List.set_cons_succ]
    refine wpAnyH_take_ex (i := 26) 102 rfl rfl (by kernel_rfl) (by kernel_rfl) (by kernel_rfl) (fun _ _ _ _ h => h) (by kernel_rfl) hH ?_
    apply Exists.intro
    apply And.intro
    · intro w9 _
      go_simp
      first | done | rfl
    simp only [List.setIfInBounds_toArray, List.set_cons_zero, List.set_cons_succ]
    refine wpAnyH_take_ex (i := 27) 103 rfl rfl (by kernel_rfl) (by kernel_rfl) (by kernel_rfl) (fun _ _ _ _ h => h) (by kernel_rfl) hH ?_
    apply Exists.intro
    apply And.intro
    · intro w9 _
      go_simp
      first | done | rfl
    simp only [List.setIfInBounds_toArray, List.set_cons_zero, List.set_cons_succ]
    refine wpAnyH_take_ex (i := 28) 104 rfl rfl (by kernel_rfl) (by kernel_rfl) (by kernel_rfl) (fun _ _ _ _ h => h) (by kernel_rfl) hH ?_
    apply Exists.intro
    apply And.intro
    · intro w9 _
      go_simp
      first | done | rfl
    simp only [List.setIfInBounds_toArray, List.set_cons_zero, List.set_cons_succ]
    refine wpAnyH_take_ex (i := 29) 105 rfl rfl (by kernel_rfl) (by kernel_rfl) (by kernel_rfl) (fun _ _ _ _ h => h) (by kernel_rfl) hH ?_
    apply Exists.intro
    apply And.intro
    · intro w9 _
      go_simp
      first | done | rfl
    simp only [List.setIfInBounds_toArray, List.set_cons_zero, List.set_cons_succ]
    refine wpAnyH_take_at (i := 30) 106 (.agg DS) rfl rfl (by kernel_rfl) (by kernel_rfl) (by kernel_rfl) (fun _ _ _ h => h) (yieldsIf_load_known (by kernel_rfl) 27 _ rfl (bu) (0) rfl (.agg DS) (LU6.out)) hH ?_
    simp only [List.setIfInBounds_toArray, List.set_cons_zero, List.set_cons_succ]
    refine wpAnyH_take_at (i := 31) 107 (.agg DS) rfl rfl (by kernel_rfl) (by kernel_rfl) (by kernel_rfl) (fun _ _ _ h => h) (yieldsIf_load_known (by kernel_rfl) 27 _ rfl (bs) (0) rfl (.agg DS) (LS6.out)) hH ?_
    simp only [List.setIfInBounds_toArray, List.set_cons_zero, List.set_cons_succ]
    refine wpAnyH_take_at (i := 32) 108 (.bool true) rfl rfl (by kernel_rfl) (by kernel_rfl) (by kernel_rfl) (fun _ _ _ h => h) (yieldsIf_eql10 (by kernel_rfl) _ _ _ _ rfl (DS) (DS) rfl rfl cgGuard (true) (HES.out)) hH ?_
    simp only [List.setIfInBounds_toArray, List.set_cons_zero, List.set_cons_succ]
    refine wpAnyH_take_ex (i := 33) 109 rfl rfl (by kernel_rfl) (by kernel_rfl) (by kernel_rfl) (fun _ _ _ _ h => h) (by kernel_rfl) hH ?_
    apply Exists.intro
    apply And.intro
    · intro w9 _
      go_simp
      first | done | rfl
    simp only [List.setIfInBounds_toArray, List.set_cons_zero, List.set_cons_succ]
    refine wpAnyH_take_ex (i := 34) 8 rfl rfl (by kernel_rfl) (by kernel_rfl) (by kernel_rfl) (fun _ _ _ _ h => h) (by kernel_rfl) hH ?_
    apply Exists.intro
    apply And.intro
    · intro w9 _
      go_simp
      first | done | rfl
    simp only [List.setIfInBounds_toArray, List.set_cons_zero, List.set_cons_succ]
    refine wpAnyH_done (by kernel_rfl) ?_ _
    refine NoPanic.normal ?_
    go_wp2
    go_ret
    exact ⟨rfl, KW6.out.onto G7⟩

end Go.Proofs.YtcjcomeakkjiiaaDoor
