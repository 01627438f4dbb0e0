/-
  The law KeysSaid.
-/
import Derived.Test.YtdfbmijbmlainaaDoorKC

namespace Go.Proofs.YtdfbmijbmlainaaDoor
open Go.RowKit Go.Lib

set_option maxRecDepth 100000 in
set_option maxHeartbeats 6400000 in
theorem keyssaid_walk (a c d : List UInt8) (ha : a.length = 32) (hc : c.length = 32) (hd : d.length = 32) (n : Int) (core : ByteArray) (w : World) (tab : Tab w) : Calls Tryd.prog 4 #[.agg (bcells a).toArray, .agg (bcells c).toArray, .agg (bcells d).toArray, .int .i64 n, .string core] w fun e w' => e = .returned (.bool true) ∧ Kept w.heap.size w.heap.size w w' := by
  have HAW := Lib.hid (fun (x : World) (k : Kept w.heap.size w.heap.size w x) => keys_awake x (tab.onto11 k))
  have HLA := Lib.hid (fun (u : World) (b : Nat) (h : u.heap[b]? = some (.cells (bcells a).toArray 23 (0, 0))) => load_hash11 ha h)
  have HLC := Lib.hid (fun (u : World) (b : Nat) (h : u.heap[b]? = some (.cells (bcells c).toArray 23 (0, 0))) => load_hash11 hc h)
  have HLD := Lib.hid (fun (u : World) (b : Nat) (h : u.heap[b]? = some (.cells (bcells d).toArray 23 (0, 0))) => load_hash11 hd h)
  by_cases hz : core.size ≤ 5000
  · have HS1 := Lib.hid (fun x => said_calls11 a ha core (by omega) x)
    have HS2 := Lib.hid (fun x => refsaid_calls11 a ha core (by omega) x)
    have HT1 := Lib.hid (fun x => tag_calls11 a c ha hc x)
    have HT2 := Lib.hid (fun x => reftag_calls11 a c ha hc x)
    have HP1 := Lib.hid (fun x => spot_calls11 core (by omega) x)
    have HP2 := Lib.hid (fun x => refspot_calls11 core (by omega) x)
    have HCX := Lib.hid (fun (x : World) (k : Kept w.heap.size w.heap.size w x) => context_calls11 a c d ha hc hd n x (tab.onto11 k))
    have hl : decide ((core.size : Int) > 5000) = false := decide_eq_false (by omega)
    have gd := macGuard25
    have heq1 := fun x => mac_equalIn x (Ky.said a core.data.toList) (Ky.said_length _ _)
    have heq2 := fun x => mac_equalIn x (Ky.tag a c) (Ky.tag_length _ _)
    generalize (bcells (Ky.said a core.data.toList)).toArray = sc at HS1 HS2 heq1
    generalize (bcells (Ky.tag a c)).toArray = tc at HT1 HT2 heq2
    generalize Ky.spot core.data.toList = sp at HP1 HP2
    by_cases hn : 0 ≤ n ∧ n ≤ 4611686018427387903
    · have HCR := Lib.hid (fun x => refcontext_calls11 a c d ha hc hd n.toNat (by omega) x)
      rw [show ((n.toNat : Nat) : Int) = n by omega] at HCR
      rw [show Ky.ctxOf a n c d = Ky.ctx a n.toNat c d by rw [Ky.ctxOf, if_pos hn]] at HCX
      generalize str (Ky.ctx a n.toNat c d) = tx at HCX HCR
      generalize (bcells a).toArray = ac at HLA HS1 HS2 HT1 HT2 HCX HCR ⊢
      generalize (bcells c).toArray = cc at HLC HT1 HT2 HCX HCR ⊢
      generalize (bcells d).toArray = dc at HLD HCX HCR ⊢
      have hn1 : decide (n < 0) = false := decide_eq_false (by omega)
      have hn2 : decide (n > 4611686018427387903) = false := decide_eq_false (by omega)
      clear ha hc hd tab hz hn
      go_enter Tryd.func4, Tryd.ntmps4
      go_upto_region 0 with fail
      refine wp_region_lit ?_
      refine @BigFrame.wpList_want _ _ _ _ _ _ _ ?hw97063 ?_
      case hw97063 => kernel_rfl
      intro K hK
      go_simp
      refine hK _ _ ?_
      clear hK K
      have kn : Kept w.heap.size w.heap.size w (w.alloc (.cells ac 23)) := (Kept.refl _ _ _).alloc (Nat.le_refl _) _
      have rab := heap_new w (.cells ac 23)
      have Kw1 := kn
      generalize w.alloc (.cells ac 23) = w1 at kn rab Kw1  ⊢
      obtain ⟨ab, hab⟩ : ∃ n, n = w.heap.size := ⟨_, rfl⟩
      rw [← hab] at rab
      (try rw [← hab])
      clear hab kn
      refine @BigFrame.wpList_want _ _ _ _ _ _ _ ?hw97064 ?_
      case hw97064 => kernel_rfl
      intro K hK
      go_simp
      refine hK _ _ ?_
      clear hK K
      have kn : Kept w1.heap.size w1.heap.size w1 (w1.alloc (.cells cc 23)) := (Kept.refl _ _ _).alloc (Nat.le_refl _) _
      have rcb := heap_new w1 (.cells cc 23)
      replace rab := row_kept rab kn
      have Kw2 := Kw1.onto kn
      generalize w1.alloc (.cells cc 23) = w2 at kn rcb Kw2 rab ⊢
      obtain ⟨cb, hcb⟩ : ∃ n, n = w1.heap.size := ⟨_, rfl⟩
      rw [← hcb] at rcb
      (try rw [← hcb])
      clear hcb kn Kw1
      refine @BigFrame.wpList_want _ _ _ _ _ _ _ ?hw97065 ?_
      case hw97065 => kernel_rfl
      intro K hK
      go_simp
      refine hK _ _ ?_
      clear hK K
      have kn : Kept w2.heap.size w2.heap.size w2 (w2.alloc (.cells dc 23)) := (Kept.refl _ _ _).alloc (Nat.le_refl _) _
      have rdb := heap_new w2 (.cells dc 23)
      replace rab := row_kept rab kn
      replace rcb := row_kept rcb kn
      have Kw3 := Kw2.onto kn
      generalize w2.alloc (.cells dc 23) = w3 at kn rdb Kw3 rab rcb ⊢
      obtain ⟨db, hdb⟩ : ∃ n, n = w2.heap.size := ⟨_, rfl⟩
      rw [← hdb] at rdb
      (try rw [← hdb])
      clear hdb kn Kw2
      refine @BigFrame.wpList_want _ _ _ _ _ _ _ ?hw97066 ?_
      case hw97066 => kernel_rfl
      intro K hK
      go_simp
      refine hK _ _ ?_
      clear hK K
      have Rab := Lib.hid rab
      clear rab
      have Rcb := Lib.hid rcb
      clear rcb
      have Rdb := Lib.hid rdb
      clear rdb
      have KW := Lib.hid Kw3
      clear Kw3
      have LA := Lib.hid (fun (x : World) (k : Kept w3.heap.size w3.heap.size w3 x) => HLA.out x ab (row_kept Rab.out k))
      have LC := Lib.hid (fun (x : World) (k : Kept w3.heap.size w3.heap.size w3 x) => HLC.out x cb (row_kept Rcb.out k))
      have LD := Lib.hid (fun (x : World) (k : Kept w3.heap.size w3.heap.size w3 x) => HLD.out x db (row_kept Rdb.out k))
      have KD : Kept w3.heap.size w3.heap.size w3 w3.drew := (Kept.refl _ _ _).drew
      go_upto_region 1 with fail
      refine wp_region_lit ?_
      refine @BigFrame.wpList_want _ _ _ _ _ _ _ ?hw97077 ?_
      case hw97077 => kernel_rfl
      intro K hK
      go_simp
      go_at_call 9
      refine (HAW.out _ KW.out).mono ?_
      rintro e x1 ⟨rfl, X1⟩
      refine hK _ _ ?_
      clear hK K
      refine @BigFrame.wpList_want _ _ _ _ _ _ _ ?hw97078 ?_
      case hw97078 => kernel_rfl
      intro K hK
      go_simp
      refine hK _ _ ?_
      clear hK K
      refine @BigFrame.wpList_want _ _ _ _ _ _ _ ?hw97079 ?_
      case hw97079 => kernel_rfl
      intro K hK
      go_simp
      refine hK _ _ ?_
      clear hK K
      refine @BigFrame.wpList_want _ _ _ _ _ _ _ ?hw97080 ?_
      case hw97080 => kernel_rfl
      intro K hK
      go_simp
      refine hK _ _ ?_
      clear hK K
      refine @BigFrame.wpList_want _ _ _ _ _ _ _ ?hw97081 ?_
      case hw97081 => kernel_rfl
      intro K hK
      go_simp
      refine hK _ _ ?_
      clear hK K
      refine @BigFrame.wpList_want _ _ _ _ _ _ _ ?hw97082 ?_
      case hw97082 => kernel_rfl
      intro K hK
      go_simp
      refine hK _ _ ?_
      clear hK K
      refine @BigFrame.wpList_want _ _ _ _ _ _ _ ?hw97083 ?_
      case hw97083 => kernel_rfl
      intro K hK
      go_simp
      refine hK _ _ ?_
      clear hK K
      have XD : Kept w3.heap.size w3.heap.size w3 x1.drew := X1.drew
      go_upto_region 3 with fail
      refine wp_region_noPanic ?_
      refine wp_region_held_drew (S := fun w' => Kept w3.heap.size w3.heap.size w3 w') (by kernel_rfl) (XD) (fun hH => ?_)
      refine wpAnyH_take_at (i := 0) 19 (.agg ac) rfl rfl (by kernel_rfl) (by kernel_rfl) (by kernel_rfl) (fun _ _ _ h => h) (yieldsIf_load_known (by kernel_rfl) 23 _ rfl (ab) (0) rfl (.agg ac) (LA.out)) hH ?_
      simp only [List.setIfInBounds_toArray, List.set_cons_zero, List.set_cons_succ]
      refine wpAnyH_take_ex (i := 1) 20 rfl rfl (by kernel_rfl) (by kernel_rfl) (by kernel_rfl) (fun _ _ _ _ h => h) (by kernel_rfl) hH ?_
      apply Exists.intro
      apply And.intro
      · intro w9 _
        go_simp
        first | done | rfl
      simp only [List.setIfInBounds_toArray, List.set_cons_zero, List.set_cons_succ]
      refine wpAnyH_take_at (i := 3) 22 (.agg ac) rfl rfl (by kernel_rfl) (by kernel_rfl) (by kernel_rfl) (fun _ _ _ h => h) (yieldsIf_load_known (by kernel_rfl) 23 _ rfl (ab) (0) rfl (.agg ac) (LA.out)) hH ?_
      simp only [List.setIfInBounds_toArray, List.set_cons_zero, List.set_cons_succ]
      refine wpAnyH_take_ex (i := 4) 23 rfl rfl (by kernel_rfl) (by kernel_rfl) (by kernel_rfl) (fun _ _ _ _ h => h) (by kernel_rfl) hH ?_
      apply Exists.intro
      apply And.intro
      · intro w9 _
        go_simp
        first | done | rfl
      simp only [List.setIfInBounds_toArray, List.set_cons_zero, List.set_cons_succ]
      refine wpAnyH_ready (rs := [2]) (by kernel_rfl) (by simp) ?_
      refine AllReadyH.cons rfl (fun K hK => ?_) AllReadyH.nil
      rw [if_pos (by rfl)]
      go_simp
      go_wp2_with (go_at_call 14; refine (HS1.out _).mono ?_; rintro e x2 ⟨rfl, kx2⟩)
      have X2 : Kept w3.heap.size w3.heap.size w3 x2 := XD.trans (kx2.mono XD.size (fun i hi _ => Nat.ne_of_lt (Nat.lt_of_lt_of_le hi XD.size)))
      refine hK.out _ _ (X2) (fun hH => ?_)
      clear hK K
      refine wpAnyH_ready (rs := [5]) (by kernel_rfl) (by simp) ?_
      refine AllReadyH.cons rfl (fun K hK => ?_) AllReadyH.nil
      rw [if_pos (by rfl)]
      go_simp
      go_wp2_with (go_at_call 15; refine (HS2.out _).mono ?_; rintro e x3 ⟨rfl, kx3⟩)
      have X3 : Kept w3.heap.size w3.heap.size w3 x3 := X2.trans (kx3.mono X2.size (fun i hi _ => Nat.ne_of_lt (Nat.lt_of_lt_of_le hi X2.size)))
      refine hK.out _ _ (X3) (fun hH => ?_)
      clear hK K
      refine wpAnyH_take_ex (i := 6) 25 rfl rfl (by kernel_rfl) (by kernel_rfl) (by kernel_rfl) (fun _ _ _ _ h => h) (by kernel_rfl) hH ?_
      apply Exists.intro
      apply And.intro
      · intro w9 _
        go_simp
        first | done | rfl
      simp only [List.setIfInBounds_toArray, List.set_cons_zero, List.set_cons_succ]
      refine wpAnyH_take_ex (i := 7) 26 rfl rfl (by kernel_rfl) (by kernel_rfl) (by kernel_rfl) (fun _ _ _ _ h => h) (by kernel_rfl) hH ?_
      apply Exists.intro
      apply And.intro
      · intro w9 _
        go_simp
        first | done | rfl
      simp only [List.setIfInBounds_toArray, List.set_cons_zero, List.set_cons_succ]
      refine wpAnyH_take_at (i := 8) 27 (.agg ac) rfl rfl (by kernel_rfl) (by kernel_rfl) (by kernel_rfl) (fun _ _ _ h => h) (yieldsIf_load_known (by kernel_rfl) 23 _ rfl (ab) (0) rfl (.agg ac) (LA.out)) hH ?_
      simp only [List.setIfInBounds_toArray, List.set_cons_zero, List.set_cons_succ]
      refine wpAnyH_take_at (i := 9) 28 (.agg cc) rfl rfl (by kernel_rfl) (by kernel_rfl) (by kernel_rfl) (fun _ _ _ h => h) (yieldsIf_load_known (by kernel_rfl) 23 _ rfl (cb) (0) rfl (.agg cc) (LC.out)) hH ?_
      simp only [List.setIfInBounds_toArray, List.set_cons_zero, List.set_cons_succ]
      refine wpAnyH_take_at (i := 11) 30 (.agg ac) rfl rfl (by kernel_rfl) (by kernel_rfl) (by kernel_rfl) (fun _ _ _ h => h) (yieldsIf_load_known (by kernel_rfl) 23 _ rfl (ab) (0) rfl (.agg ac) (LA.out)) hH ?_
      simp only [List.setIfInBounds_toArray, List.set_cons_zero, List.set_cons_succ]
      refine wpAnyH_take_at (i := 12) 31 (.agg cc) rfl rfl (by kernel_rfl) (by kernel_rfl) (by kernel_rfl) (fun _ _ _ h => h) (yieldsIf_load_known (by kernel_rfl) 23 _ rfl (cb) (0) rfl (.agg cc) (LC.out)) hH ?_
      simp only [List.setIfInBounds_toArray, List.set_cons_zero, List.set_cons_succ]
      refine wpAnyH_ready (rs := [10]) (by kernel_rfl) (by simp) ?_
      refine AllReadyH.cons rfl (fun K hK => ?_) AllReadyH.nil
      rw [if_pos (by rfl)]
      go_simp
      go_wp2_with (go_at_call 16; refine (HT1.out _).mono ?_; rintro e x4 ⟨rfl, kx4⟩)
      have X4 : Kept w3.heap.size w3.heap.size w3 x4 := X3.trans (kx4.mono X3.size (fun i hi _ => Nat.ne_of_lt (Nat.lt_of_lt_of_le hi X3.size)))
      refine hK.out _ _ (X4) (fun hH => ?_)
      clear hK K
      refine wpAnyH_ready (rs := [13]) (by kernel_rfl) (by simp) ?_
      refine AllReadyH.cons rfl (fun K hK => ?_) AllReadyH.nil
      rw [if_pos (by rfl)]
      go_simp
      go_wp2_with (go_at_call 17; refine (HT2.out _).mono ?_; rintro e x5 ⟨rfl, kx5⟩)
      have X5 : Kept w3.heap.size w3.heap.size w3 x5 := X4.trans (kx5.mono X4.size (fun i hi _ => Nat.ne_of_lt (Nat.lt_of_lt_of_le hi X4.size)))
      refine hK.out _ _ (X5) (fun hH => ?_)
      clear hK K
      refine wpAnyH_take_ex (i := 14) 33 rfl rfl (by kernel_rfl) (by kernel_rfl) (by kernel_rfl) (fun _ _ _ _ h => h) (by kernel_rfl) hH ?_
      apply Exists.intro
      apply And.intro
      · intro w9 _
        go_simp
        first | done | rfl
      simp only [List.setIfInBounds_toArray, List.set_cons_zero, List.set_cons_succ]
      refine wpAnyH_take_ex (i := 15) 34 rfl rfl (by kernel_rfl) (by kernel_rfl) (by kernel_rfl) (fun _ _ _ _ h => h) (by kernel_rfl) hH ?_
      apply Exists.intro
      apply And.intro
      · intro w9 _
        go_simp
        first | done | rfl
      simp only [List.setIfInBounds_toArray, List.set_cons_zero, List.set_cons_succ]
      refine wpAnyH_take_ex (i := 16) 35 rfl rfl (by kernel_rfl) (by kernel_rfl) (by kernel_rfl) (fun _ _ _ _ h => h) (by kernel_rfl) hH ?_
      apply Exists.intro
      apply And.intro
      · intro w9 _
        go_simp
        first | done | rfl
      simp only [List.setIfInBounds_toArray, List.set_cons_zero, List.set_cons_succ]
      refine wpAnyH_take_ex (i := 17) 36 rfl rfl (by kernel_rfl) (by kernel_rfl) (by kernel_rfl) (fun _ _ _ _ h => h) (by kernel_rfl) hH ?_
      apply Exists.intro
      apply And.intro
      · intro w9 _
        go_simp
        first | done | rfl
      simp only [List.setIfInBounds_toArray, List.set_cons_zero, List.set_cons_succ]
      refine wpAnyH_take_ex (i := 19) 38 rfl rfl (by kernel_rfl) (by kernel_rfl) (by kernel_rfl) (fun _ _ _ _ h => h) (by kernel_rfl) hH ?_
      apply Exists.intro
      apply And.intro
      · intro w9 _
        go_simp
        first | done | rfl
      simp only [List.setIfInBounds_toArray, List.set_cons_zero, List.set_cons_succ]
      refine wpAnyH_ready (rs := [18]) (by kernel_rfl) (by simp) ?_
      refine AllReadyH.cons rfl (fun K hK => ?_) AllReadyH.nil
      rw [if_pos (by rfl)]
      go_simp
      go_wp2_with (go_at_call 18; refine (HP1.out _).mono ?_; rintro e x6 ⟨rfl, kx6⟩)
      have X6 : Kept w3.heap.size w3.heap.size w3 x6 := X5.trans (kx6.mono X5.size (fun i hi _ => Nat.ne_of_lt (Nat.lt_of_lt_of_le hi X5.size)))
      refine hK.out _ _ (X6) (fun hH => ?_)
      clear hK K
      refine wpAnyH_ready (rs := [20]) (by kernel_rfl) (by simp) ?_
      refine AllReadyH.cons rfl (fun K hK => ?_) AllReadyH.nil
      rw [if_pos (by rfl)]
      go_simp
      go_wp2_with (go_at_call 19; refine (HP2.out _).mono ?_; rintro e x7 ⟨rfl, kx7⟩)
      have X7 : Kept w3.heap.size w3.heap.size w3 x7 := X6.trans (kx7.mono X6.size (fun i hi _ => Nat.ne_of_lt (Nat.lt_of_lt_of_le hi X6.size)))
      refine hK.out _ _ (X7) (fun hH => ?_)
      clear hK K
      refine wpAnyH_take_ex (i := 21) 40 rfl rfl (by kernel_rfl) (by kernel_rfl) (by kernel_rfl) (fun _ _ _ _ h => h) (by kernel_rfl) hH ?_
      apply Exists.intro
      apply And.intro
      · intro w9 _
        go_simp
        first | done | rfl
      simp only [List.setIfInBounds_toArray, List.set_cons_zero, List.set_cons_succ]
      refine wpAnyH_take_ex (i := 22) 41 rfl rfl (by kernel_rfl) (by kernel_rfl) (by kernel_rfl) (fun _ _ _ _ h => h) (by kernel_rfl) hH ?_
      apply Exists.intro
      apply And.intro
      · intro w9 _
        go_simp
        first | done | rfl
      simp only [List.setIfInBounds_toArray, List.set_cons_zero, List.set_cons_succ]
      refine wpAnyH_done (by kernel_rfl) ?_ _
      refine NoPanic.normal ?_
      have XE : Kept w3.heap.size w3.heap.size w3 x7.drew := X7.drew
      go_upto_region 7 with fail
      refine wp_region_noPanic ?_
      refine wp_region_held_drew (S := fun w' => Kept w3.heap.size w3.heap.size w3 w') (by kernel_rfl) (XE) (fun hH => ?_)
      refine wpAnyH_take_at (i := 0) 54 (.agg ac) rfl rfl (by kernel_rfl) (by kernel_rfl) (by kernel_rfl) (fun _ _ _ h => h) (yieldsIf_load_known (by kernel_rfl) 23 _ rfl (ab) (0) rfl (.agg ac) (LA.out)) hH ?_
      simp only [List.setIfInBounds_toArray, List.set_cons_zero, List.set_cons_succ]
      refine wpAnyH_take_ex (i := 1) 55 rfl rfl (by kernel_rfl) (by kernel_rfl) (by kernel_rfl) (fun _ _ _ _ h => h) (by kernel_rfl) hH ?_
      apply Exists.intro
      apply And.intro
      · intro w9 _
        go_simp
        first | done | rfl
      simp only [List.setIfInBounds_toArray, List.set_cons_zero, List.set_cons_succ]
      refine wpAnyH_take_at (i := 2) 56 (.agg cc) rfl rfl (by kernel_rfl) (by kernel_rfl) (by kernel_rfl) (fun _ _ _ h => h) (yieldsIf_load_known (by kernel_rfl) 23 _ rfl (cb) (0) rfl (.agg cc) (LC.out)) hH ?_
      simp only [List.setIfInBounds_toArray, List.set_cons_zero, List.set_cons_succ]
      refine wpAnyH_take_at (i := 3) 57 (.agg dc) rfl rfl (by kernel_rfl) (by kernel_rfl) (by kernel_rfl) (fun _ _ _ h => h) (yieldsIf_load_known (by kernel_rfl) 23 _ rfl (db) (0) rfl (.agg dc) (LD.out)) hH ?_
      simp only [List.setIfInBounds_toArray, List.set_cons_zero, List.set_cons_succ]
      refine wpAnyH_take_at (i := 5) 59 (.agg ac) rfl rfl (by kernel_rfl) (by kernel_rfl) (by kernel_rfl) (fun _ _ _ h => h) (yieldsIf_load_known (by kernel_rfl) 23 _ rfl (ab) (0) rfl (.agg ac) (LA.out)) hH ?_
      simp only [List.setIfInBounds_toArray, List.set_cons_zero, List.set_cons_succ]
      refine wpAnyH_take_ex (i := 6) 60 rfl rfl (by kernel_rfl) (by kernel_rfl) (by kernel_rfl) (fun _ _ _ _ h => h) (by kernel_rfl) hH ?_
      apply Exists.intro
      apply And.intro
      · intro w9 _
        go_simp
        first | done | rfl
      simp only [List.setIfInBounds_toArray, List.set_cons_zero, List.set_cons_succ]
      refine wpAnyH_take_at (i := 7) 61 (.agg cc) rfl rfl (by kernel_rfl) (by kernel_rfl) (by kernel_rfl) (fun _ _ _ h => h) (yieldsIf_load_known (by kernel_rfl) 23 _ rfl (cb) (0) rfl (.agg cc) (LC.out)) hH ?_
      simp only [List.setIfInBounds_toArray, List.set_cons_zero, List.set_cons_succ]
      refine wpAnyH_take_at (i := 8) 62 (.agg dc) rfl rfl (by kernel_rfl) (by kernel_rfl) (by kernel_rfl) (fun _ _ _ h => h) (yieldsIf_load_known (by kernel_rfl) 23 _ rfl (db) (0) rfl (.agg dc) (LD.out)) hH ?_
      simp only [List.setIfInBounds_toArray, List.set_cons_zero, List.set_cons_succ]
      refine wpAnyH_ready (rs := [4]) (by kernel_rfl) (by simp) ?_
      refine AllReadyH.cons rfl (fun K hK => ?_) AllReadyH.nil
      rw [if_pos (by rfl)]
      go_simp
      go_wp2_with (go_at_call 20; refine (HCX.out _ (KW.out.onto XE)).mono ?_; rintro e x8 ⟨rfl, kx8⟩)
      have X8 : Kept w3.heap.size w3.heap.size w3 x8 := XE.trans (kx8.mono XE.size (fun i hi _ => Nat.ne_of_lt (Nat.lt_of_lt_of_le hi XE.size)))
      refine hK.out _ _ (X8) (fun hH => ?_)
      clear hK K
      refine wpAnyH_ready (rs := [9]) (by kernel_rfl) (by simp) ?_
      refine AllReadyH.cons rfl (fun K hK => ?_) AllReadyH.nil
      rw [if_pos (by rfl)]
      go_simp
      go_wp2_with (go_at_call 21; refine (HCR.out _).mono ?_; rintro e x9 ⟨rfl, kx9⟩)
      have X9 : Kept w3.heap.size w3.heap.size w3 x9 := X8.trans (kx9.mono X8.size (fun i hi _ => Nat.ne_of_lt (Nat.lt_of_lt_of_le hi X8.size)))
      refine hK.out _ _ (X9) (fun hH => ?_)
      clear hK K
      refine wpAnyH_take_ex (i := 10) 64 rfl rfl (by kernel_rfl) (by kernel_rfl) (by kernel_rfl) (fun _ _ _ _ h => h) (by kernel_rfl) hH ?_
      apply Exists.intro
      apply And.intro
      · intro w9 _
        go_simp
        first | done | rfl
      simp only [List.setIfInBounds_toArray, List.set_cons_zero, List.set_cons_succ]
      refine wpAnyH_take_ex (i := 11) 10 rfl rfl (by kernel_rfl) (by kernel_rfl) (by kernel_rfl) (fun _ _ _ _ h => h) (by kernel_rfl) hH ?_
      apply Exists.intro
      apply And.intro
      · intro w9 _
        go_simp
        first | done | rfl
      simp only [List.setIfInBounds_toArray, List.set_cons_zero, List.set_cons_succ]
      refine wpAnyH_done (by kernel_rfl) ?_ _
      refine NoPanic.normal ?_
      go_wp2
      go_ret
      exact ⟨rfl, KW.out.onto X9⟩
    · rw [show Ky.ctxOf a n c d = [] by rw [Ky.ctxOf, if_neg hn]] at HCX
      rw [show str [] = (⟨#[]⟩ : ByteArray) from rfl] at HCX
      generalize (bcells a).toArray = ac at HLA HS1 HS2 HT1 HT2 HCX ⊢
      generalize (bcells c).toArray = cc at HLC HT1 HT2 HCX ⊢
      generalize (bcells d).toArray = dc at HLD HCX ⊢
      clear ha hc hd tab hz
      by_cases hn0 : n < 0
      · have hn1 : decide (n < 0) = true := decide_eq_true hn0
        clear hn
        go_enter Tryd.func4, Tryd.ntmps4
        go_upto_region 0 with fail
        refine wp_region_lit ?_
        refine @BigFrame.wpList_want _ _ _ _ _ _ _ ?hw97063 ?_
        case hw97063 => kernel_rfl
        intro K hK
        go_simp
        refine hK _ _ ?_
        clear hK K
        have kn : Kept w.heap.size w.heap.size w (w.alloc (.cells ac 23)) := (Kept.refl _ _ _).alloc (Nat.le_refl _) _
        have rab := heap_new w (.cells ac 23)
        have Kw1 := kn
        generalize w.alloc (.cells ac 23) = w1 at kn rab Kw1  ⊢
        obtain ⟨ab, hab⟩ : ∃ n, n = w.heap.size := ⟨_, rfl⟩
        rw [← hab] at rab
        (try rw [← hab])
        clear hab kn
        refine @BigFrame.wpList_want _ _ _ _ _ _ _ ?hw97064 ?_
        case hw97064 => kernel_rfl
        intro K hK
        go_simp
        refine hK _ _ ?_
        clear hK K
        have kn : Kept w1.heap.size w1.heap.size w1 (w1.alloc (.cells cc 23)) := (Kept.refl _ _ _).alloc (Nat.le_refl _) _
        have rcb := heap_new w1 (.cells cc 23)
        replace rab := row_kept rab kn
        have Kw2 := Kw1.onto kn
        generalize w1.alloc (.cells cc 23) = w2 at kn rcb Kw2 rab ⊢
        obtain ⟨cb, hcb⟩ : ∃ n, n = w1.heap.size := ⟨_, rfl⟩
        rw [← hcb] at rcb
        (try rw [← hcb])
        clear hcb kn Kw1
        refine @BigFrame.wpList_want _ _ _ _ _ _ _ ?hw97065 ?_
        case hw97065 => kernel_rfl
        intro K hK
        go_simp
        refine hK _ _ ?_
        clear hK K
        have kn : Kept w2.heap.size w2.heap.size w2 (w2.alloc (.cells dc 23)) := (Kept.refl _ _ _).alloc (Nat.le_refl _) _
        have rdb := heap_new w2 (.cells dc 23)
        replace rab := row_kept rab kn
        replace rcb := row_kept rcb kn
        have Kw3 := Kw2.onto kn
        generalize w2.alloc (.cells dc 23) = w3 at kn rdb Kw3 rab rcb ⊢
        obtain ⟨db, hdb⟩ : ∃ n, n = w2.heap.size := ⟨_, rfl⟩
        rw [← hdb] at rdb
        (try rw [← hdb])
        clear hdb kn Kw2
        refine @BigFrame.wpList_want _ _ _ _ _ _ _ ?hw97066 ?_
        case hw97066 => kernel_rfl
        intro K hK
        go_simp
        refine hK _ _ ?_
        clear hK K
        have Rab := Lib.hid rab
        clear rab
        have Rcb := Lib.hid rcb
        clear rcb
        have Rdb := Lib.hid rdb
        clear rdb
        have KW := Lib.hid Kw3
        clear Kw3
        have LA := Lib.hid (fun (x : World) (k : Kept w3.heap.size w3.heap.size w3 x) => HLA.out x ab (row_kept Rab.out k))
        have LC := Lib.hid (fun (x : World) (k : Kept w3.heap.size w3.heap.size w3 x) => HLC.out x cb (row_kept Rcb.out k))
        have LD := Lib.hid (fun (x : World) (k : Kept w3.heap.size w3.heap.size w3 x) => HLD.out x db (row_kept Rdb.out k))
        have KD : Kept w3.heap.size w3.heap.size w3 w3.drew := (Kept.refl _ _ _).drew
        go_upto_region 1 with fail
        refine wp_region_lit ?_
        refine @BigFrame.wpList_want _ _ _ _ _ _ _ ?hw97077 ?_
        case hw97077 => kernel_rfl
        intro K hK
        go_simp
        go_at_call 9
        refine (HAW.out _ KW.out).mono ?_
        rintro e x1 ⟨rfl, X1⟩
        refine hK _ _ ?_
        clear hK K
        refine @BigFrame.wpList_want _ _ _ _ _ _ _ ?hw97078 ?_
        case hw97078 => kernel_rfl
        intro K hK
        go_simp
        refine hK _ _ ?_
        clear hK K
        refine @BigFrame.wpList_want _ _ _ _ _ _ _ ?hw97079 ?_
        case hw97079 => kernel_rfl
        intro K hK
        go_simp
        refine hK _ _ ?_
        clear hK K
        refine @BigFrame.wpList_want _ _ _ _ _ _ _ ?hw97080 ?_
        case hw97080 => kernel_rfl
        intro K hK
        go_simp
        refine hK _ _ ?_
        clear hK K
        refine @BigFrame.wpList_want _ _ _ _ _ _ _ ?hw97081 ?_
        case hw97081 => kernel_rfl
        intro K hK
        go_simp
        refine hK _ _ ?_
        clear hK K
        refine @BigFrame.wpList_want _ _ _ _ _ _ _ ?hw97082 ?_
        case hw97082 => kernel_rfl
        intro K hK
        go_simp
        refine hK _ _ ?_
        clear hK K
        refine @BigFrame.wpList_want _ _ _ _ _ _ _ ?hw97083 ?_
        case hw97083 => kernel_rfl
        intro K hK
        go_simp
        refine hK _ _ ?_
        clear hK K
        have XD : Kept w3.heap.size w3.heap.size w3 x1.drew := X1.drew
        go_upto_region 3 with fail
        refine wp_region_noPanic ?_
        refine wp_region_held_drew (S := fun w' => Kept w3.heap.size w3.heap.size w3 w') (by kernel_rfl) (XD) (fun hH => ?_)
        refine wpAnyH_take_at (i := 0) 19 (.agg ac) rfl rfl (by kernel_rfl) (by kernel_rfl) (by kernel_rfl) (fun _ _ _ h => h) (yieldsIf_load_known (by kernel_rfl) 23 _ rfl (ab) (0) rfl (.agg ac) (LA.out)) hH ?_
        simp only [List.setIfInBounds_toArray, List.set_cons_zero, List.set_cons_succ]
        refine wpAnyH_take_ex (i := 1) 20 rfl rfl (by kernel_rfl) (by kernel_rfl) (by kernel_rfl) (fun _ _ _ _ h => h) (by kernel_rfl) hH ?_
        apply Exists.intro
        apply And.intro
        · intro w9 _
          go_simp
          first | done | rfl
        simp only [List.setIfInBounds_toArray, List.set_cons_zero, List.set_cons_succ]
        refine wpAnyH_take_at (i := 3) 22 (.agg ac) rfl rfl (by kernel_rfl) (by kernel_rfl) (by kernel_rfl) (fun _ _ _ h => h) (yieldsIf_load_known (by kernel_rfl) 23 _ rfl (ab) (0) rfl (.agg ac) (LA.out)) hH ?_
        simp only [List.setIfInBounds_toArray, List.set_cons_zero, List.set_cons_succ]
        refine wpAnyH_take_ex (i := 4) 23 rfl rfl (by kernel_rfl) (by kernel_rfl) (by kernel_rfl) (fun _ _ _ _ h => h) (by kernel_rfl) hH ?_
        apply Exists.intro
        apply And.intro
        · intro w9 _
          go_simp
          first | done | rfl
        simp only [List.setIfInBounds_toArray, List.set_cons_zero, List.set_cons_succ]
        refine wpAnyH_ready (rs := [2]) (by kernel_rfl) (by simp) ?_
        refine AllReadyH.cons rfl (fun K hK => ?_) AllReadyH.nil
        rw [if_pos (by rfl)]
        go_simp
        go_wp2_with (go_at_call 14; refine (HS1.out _).mono ?_; rintro e x2 ⟨rfl, kx2⟩)
        have X2 : Kept w3.heap.size w3.heap.size w3 x2 := XD.trans (kx2.mono XD.size (fun i hi _ => Nat.ne_of_lt (Nat.lt_of_lt_of_le hi XD.size)))
        refine hK.out _ _ (X2) (fun hH => ?_)
        clear hK K
        refine wpAnyH_ready (rs := [5]) (by kernel_rfl) (by simp) ?_
        refine AllReadyH.cons rfl (fun K hK => ?_) AllReadyH.nil
        rw [if_pos (by rfl)]
        go_simp
        go_wp2_with (go_at_call 15; refine (HS2.out _).mono ?_; rintro e x3 ⟨rfl, kx3⟩)
        have X3 : Kept w3.heap.size w3.heap.size w3 x3 := X2.trans (kx3.mono X2.size (fun i hi _ => Nat.ne_of_lt (Nat.lt_of_lt_of_le hi X2.size)))
        refine hK.out _ _ (X3) (fun hH => ?_)
        clear hK K
        refine wpAnyH_take_ex (i := 6) 25 rfl rfl (by kernel_rfl) (by kernel_rfl) (by kernel_rfl) (fun _ _ _ _ h => h) (by kernel_rfl) hH ?_
        apply Exists.intro
        apply And.intro
        · intro w9 _
          go_simp
          first | done | rfl
        simp only [List.setIfInBounds_toArray, List.set_cons_zero, List.set_cons_succ]
        refine wpAnyH_take_ex (i := 7) 26 rfl rfl (by kernel_rfl) (by kernel_rfl) (by kernel_rfl) (fun _ _ _ _ h => h) (by kernel_rfl) hH ?_
        apply Exists.intro
        apply And.intro
        · intro w9 _
          go_simp
          first | done | rfl
        simp only [List.setIfInBounds_toArray, List.set_cons_zero, List.set_cons_succ]
        refine wpAnyH_take_at (i := 8) 27 (.agg ac) rfl rfl (by kernel_rfl) (by kernel_rfl) (by kernel_rfl) (fun _ _ _ h => h) (yieldsIf_load_known (by kernel_rfl) 23 _ rfl (ab) (0) rfl (.agg ac) (LA.out)) hH ?_
        simp only [List.setIfInBounds_toArray, List.set_cons_zero, List.set_cons_succ]
        refine wpAnyH_take_at (i := 9) 28 (.agg cc) rfl rfl (by kernel_rfl) (by kernel_rfl) (by kernel_rfl) (fun _ _ _ h => h) (yieldsIf_load_known (by kernel_rfl) 23 _ rfl (cb) (0) rfl (.agg cc) (LC.out)) hH ?_
        simp only [List.setIfInBounds_toArray, List.set_cons_zero, List.set_cons_succ]
        refine wpAnyH_take_at (i := 11) 30 (.agg ac) rfl rfl (by kernel_rfl) (by kernel_rfl) (by kernel_rfl) (fun _ _ _ h => h) (yieldsIf_load_known (by kernel_rfl) 23 _ rfl (ab) (0) rfl (.agg ac) (LA.out)) hH ?_
        simp only [List.setIfInBounds_toArray, List.set_cons_zero, List.set_cons_succ]
        refine wpAnyH_take_at (i := 12) 31 (.agg cc) rfl rfl (by kernel_rfl) (by kernel_rfl) (by kernel_rfl) (fun _ _ _ h => h) (yieldsIf_load_known (by kernel_rfl) 23 _ rfl (cb) (0) rfl (.agg cc) (LC.out)) hH ?_
        simp only [List.setIfInBounds_toArray, List.set_cons_zero, List.set_cons_succ]
        refine wpAnyH_ready (rs := [10]) (by kernel_rfl) (by simp) ?_
        refine AllReadyH.cons rfl (fun K hK => ?_) AllReadyH.nil
        rw [if_pos (by rfl)]
        go_simp
        go_wp2_with (go_at_call 16; refine (HT1.out _).mono ?_; rintro e x4 ⟨rfl, kx4⟩)
        have X4 : Kept w3.heap.size w3.heap.size w3 x4 := X3.trans (kx4.mono X3.size (fun i hi _ => Nat.ne_of_lt (Nat.lt_of_lt_of_le hi X3.size)))
        refine hK.out _ _ (X4) (fun hH => ?_)
        clear hK K
        refine wpAnyH_ready (rs := [13]) (by kernel_rfl) (by simp) ?_
        refine AllReadyH.cons rfl (fun K hK => ?_) AllReadyH.nil
        rw [if_pos (by rfl)]
        go_simp
        go_wp2_with (go_at_call 17; refine (HT2.out _).mono ?_; rintro e x5 ⟨rfl, kx5⟩)
        have X5 : Kept w3.heap.size w3.heap.size w3 x5 := X4.trans (kx5.mono X4.size (fun i hi _ => Nat.ne_of_lt (Nat.lt_of_lt_of_le hi X4.size)))
        refine hK.out _ _ (X5) (fun hH => ?_)
        clear hK K
        refine wpAnyH_take_ex (i := 14) 33 rfl rfl (by kernel_rfl) (by kernel_rfl) (by kernel_rfl) (fun _ _ _ _ h => h) (by kernel_rfl) hH ?_
        apply Exists.intro
        apply And.intro
        · intro w9 _
          go_simp
          first | done | rfl
        simp only [List.setIfInBounds_toArray, List.set_cons_zero, List.set_cons_succ]
        refine wpAnyH_take_ex (i := 15) 34 rfl rfl (by kernel_rfl) (by kernel_rfl) (by kernel_rfl) (fun _ _ _ _ h => h) (by kernel_rfl) hH ?_
        apply Exists.intro
        apply And.intro
        · intro w9 _
          go_simp
          first | done | rfl
        simp only [List.setIfInBounds_toArray, List.set_cons_zero, List.set_cons_succ]
        refine wpAnyH_take_ex (i := 16) 35 rfl rfl (by kernel_rfl) (by kernel_rfl) (by kernel_rfl) (fun _ _ _ _ h => h) (by kernel_rfl) hH ?_
        apply Exists.intro
        apply And.intro
        · intro w9 _
          go_simp
          first | done | rfl
        simp only [List.setIfInBounds_toArray, List.set_cons_zero, List.set_cons_succ]
        refine wpAnyH_take_ex (i := 17) 36 rfl rfl (by kernel_rfl) (by kernel_rfl) (by kernel_rfl) (fun _ _ _ _ h => h) (by kernel_rfl) hH ?_
        apply Exists.intro
        apply And.intro
        · intro w9 _
          go_simp
          first | done | rfl
        simp only [List.setIfInBounds_toArray, List.set_cons_zero, List.set_cons_succ]
        refine wpAnyH_take_ex (i := 19) 38 rfl rfl (by kernel_rfl) (by kernel_rfl) (by kernel_rfl) (fun _ _ _ _ h => h) (by kernel_rfl) hH ?_
        apply Exists.intro
        apply And.intro
        · intro w9 _
          go_simp
          first | done | rfl
        simp only [List.setIfInBounds_toArray, List.set_cons_zero, List.set_cons_succ]
        refine wpAnyH_ready (rs := [18]) (by kernel_rfl) (by simp) ?_
        refine AllReadyH.cons rfl (fun K hK => ?_) AllReadyH.nil
        rw [if_pos (by rfl)]
        go_simp
        go_wp2_with (go_at_call 18; refine (HP1.out _).mono ?_; rintro e x6 ⟨rfl, kx6⟩)
        have X6 : Kept w3.heap.size w3.heap.size w3 x6 := X5.trans (kx6.mono X5.size (fun i hi _ => Nat.ne_of_lt (Nat.lt_of_lt_of_le hi X5.size)))
        refine hK.out _ _ (X6) (fun hH => ?_)
        clear hK K
        refine wpAnyH_ready (rs := [20]) (by kernel_rfl) (by simp) ?_
        refine AllReadyH.cons rfl (fun K hK => ?_) AllReadyH.nil
        rw [if_pos (by rfl)]
        go_simp
        go_wp2_with (go_at_call 19; refine (HP2.out _).mono ?_; rintro e x7 ⟨rfl, kx7⟩)
        have X7 : Kept w3.heap.size w3.heap.size w3 x7 := X6.trans (kx7.mono X6.size (fun i hi _ => Nat.ne_of_lt (Nat.lt_of_lt_of_le hi X6.size)))
        refine hK.out _ _ (X7) (fun hH => ?_)
        clear hK K
        refine wpAnyH_take_ex (i := 21) 40 rfl rfl (by kernel_rfl) (by kernel_rfl) (by kernel_rfl) (fun _ _ _ _ h => h) (by kernel_rfl) hH ?_
        apply Exists.intro
        apply And.intro
        · intro w9 _
          go_simp
          first | done | rfl
        simp only [List.setIfInBounds_toArray, List.set_cons_zero, List.set_cons_succ]
        refine wpAnyH_take_ex (i := 22) 41 rfl rfl (by kernel_rfl) (by kernel_rfl) (by kernel_rfl) (fun _ _ _ _ h => h) (by kernel_rfl) hH ?_
        apply Exists.intro
        apply And.intro
        · intro w9 _
          go_simp
          first | done | rfl
        simp only [List.setIfInBounds_toArray, List.set_cons_zero, List.set_cons_succ]
        refine wpAnyH_done (by kernel_rfl) ?_ _
        refine NoPanic.normal ?_
        go_upto_region 6 with fail
        refine wp_region_lit ?_
        refine @wpList_load_known _ _ _ _ _ _ _ ?hw97085 23 (.tmp 5) rfl (ab) (0) rfl (.agg ac) (LA.out _ X7) ?_
        case hw97085 => kernel_rfl
        simp only [Act.put, List.setIfInBounds_toArray, List.set_cons_zero, List.set_cons_succ]
        refine @BigFrame.wpList_want _ _ _ _ _ _ _ ?hw97086 ?_
        case hw97086 => kernel_rfl
        intro K hK
        go_simp
        refine hK _ _ ?_
        clear hK K
        refine @wpList_load_known _ _ _ _ _ _ _ ?hw97087 23 (.tmp 6) rfl (cb) (0) rfl (.agg cc) (LC.out _ X7) ?_
        case hw97087 => kernel_rfl
        simp only [Act.put, List.setIfInBounds_toArray, List.set_cons_zero, List.set_cons_succ]
        refine @wpList_load_known _ _ _ _ _ _ _ ?hw97088 23 (.tmp 7) rfl (db) (0) rfl (.agg dc) (LD.out _ X7) ?_
        case hw97088 => kernel_rfl
        simp only [Act.put, List.setIfInBounds_toArray, List.set_cons_zero, List.set_cons_succ]
        refine @BigFrame.wpList_want _ _ _ _ _ _ _ ?hw97084 ?_
        case hw97084 => kernel_rfl
        intro K hK
        go_simp
        go_at_call 20
        refine (HCX.out _ (KW.out.onto X7)).mono ?_
        rintro e x8 ⟨rfl, k8⟩
        have X8 : Kept w3.heap.size w3.heap.size w3 x8 := X7.onto k8
        refine hK _ _ ?_
        clear hK K
        refine @BigFrame.wpList_want _ _ _ _ _ _ _ ?hw97089 ?_
        case hw97089 => kernel_rfl
        intro K hK
        go_simp
        refine hK _ _ ?_
        clear hK K
        refine @BigFrame.wpList_want _ _ _ _ _ _ _ ?hw97090 ?_
        case hw97090 => kernel_rfl
        intro K hK
        go_simp
        refine hK _ _ ?_
        clear hK K
        go_wp2
        go_ret
        exact ⟨rfl, KW.out.onto X8⟩
      · have hn1 : decide (n < 0) = false := decide_eq_false hn0
        have hn2 : decide (n > 4611686018427387903) = true := decide_eq_true (by omega)
        clear hn
        go_enter Tryd.func4, Tryd.ntmps4
        go_upto_region 0 with fail
        refine wp_region_lit ?_
        refine @BigFrame.wpList_want _ _ _ _ _ _ _ ?hw97063 ?_
        case hw97063 => kernel_rfl
        intro K hK
        go_simp
        refine hK _ _ ?_
        clear hK K
        have kn : Kept w.heap.size w.heap.size w (w.alloc (.cells ac 23)) := (Kept.refl _ _ _).alloc (Nat.le_refl _) _
        have rab := heap_new w (.cells ac 23)
        have Kw1 := kn
        generalize w.alloc (.cells ac 23) = w1 at kn rab Kw1  ⊢
        obtain ⟨ab, hab⟩ : ∃ n, n = w.heap.size := ⟨_, rfl⟩
        rw [← hab] at rab
        (try rw [← hab])
        clear hab kn
        refine @BigFrame.wpList_want _ _ _ _ _ _ _ ?hw97064 ?_
        case hw97064 => kernel_rfl
        intro K hK
        go_simp
        refine hK _ _ ?_
        clear hK K
        have kn : Kept w1.heap.size w1.heap.size w1 (w1.alloc (.cells cc 23)) := (Kept.refl _ _ _).alloc (Nat.le_refl _) _
        have rcb := heap_new w1 (.cells cc 23)
        replace rab := row_kept rab kn
        have Kw2 := Kw1.onto kn
        generalize w1.alloc (.cells cc 23) = w2 at kn rcb Kw2 rab ⊢
        obtain ⟨cb, hcb⟩ : ∃ n, n = w1.heap.size := ⟨_, rfl⟩
        rw [← hcb] at rcb
        (try rw [← hcb])
        clear hcb kn Kw1
        refine @BigFrame.wpList_want _ _ _ _ _ _ _ ?hw97065 ?_
        case hw97065 => kernel_rfl
        intro K hK
        go_simp
        refine hK _ _ ?_
        clear hK K
        have kn : Kept w2.heap.size w2.heap.size w2 (w2.alloc (.cells dc 23)) := (Kept.refl _ _ _).alloc (Nat.le_refl _) _
        have rdb := heap_new w2 (.cells dc 23)
        replace rab := row_kept rab kn
        replace rcb := row_kept rcb kn
        have Kw3 := Kw2.onto kn
        generalize w2.alloc (.cells dc 23) = w3 at kn rdb Kw3 rab rcb ⊢
        obtain ⟨db, hdb⟩ : ∃ n, n = w2.heap.size := ⟨_, rfl⟩
        rw [← hdb] at rdb
        (try rw [← hdb])
        clear hdb kn Kw2
        refine @BigFrame.wpList_want _ _ _ _ _ _ _ ?hw97066 ?_
        case hw97066 => kernel_rfl
        intro K hK
        go_simp
        refine hK _ _ ?_
        clear hK K
        have Rab := Lib.hid rab
        clear rab
        have Rcb := Lib.hid rcb
        clear rcb
        have Rdb := Lib.hid rdb
        clear rdb
        have KW := Lib.hid Kw3
        clear Kw3
        have LA := Lib.hid (fun (x : World) (k : Kept w3.heap.size w3.heap.size w3 x) => HLA.out x ab (row_kept Rab.out k))
        have LC := Lib.hid (fun (x : World) (k : Kept w3.heap.size w3.heap.size w3 x) => HLC.out x cb (row_kept Rcb.out k))
        have LD := Lib.hid (fun (x : World) (k : Kept w3.heap.size w3.heap.size w3 x) => HLD.out x db (row_kept Rdb.out k))
        have KD : Kept w3.heap.size w3.heap.size w3 w3.drew := (Kept.refl _ _ _).drew
        go_upto_region 1 with fail
        refine wp_region_lit ?_
        refine @BigFrame.wpList_want _ _ _ _ _ _ _ ?hw97077 ?_
        case hw97077 => kernel_rfl
        intro K hK
        go_simp
        go_at_call 9
        refine (HAW.out _ KW.out).mono ?_
        rintro e x1 ⟨rfl, X1⟩
        refine hK _ _ ?_
        clear hK K
        refine @BigFrame.wpList_want _ _ _ _ _ _ _ ?hw97078 ?_
        case hw97078 => kernel_rfl
        intro K hK
        go_simp
        refine hK _ _ ?_
        clear hK K
        refine @BigFrame.wpList_want _ _ _ _ _ _ _ ?hw97079 ?_
        case hw97079 => kernel_rfl
        intro K hK
        go_simp
        refine hK _ _ ?_
        clear hK K
        refine @BigFrame.wpList_want _ _ _ _ _ _ _ ?hw97080 ?_
        case hw97080 => kernel_rfl
        intro K hK
        go_simp
        refine hK _ _ ?_
        clear hK K
        refine @BigFrame.wpList_want _ _ _ _ _ _ _ ?hw97081 ?_
        case hw97081 => kernel_rfl
        intro K hK
        go_simp
        refine hK _ _ ?_
        clear hK K
        refine @BigFrame.wpList_want _ _ _ _ _ _ _ ?hw97082 ?_
        case hw97082 => kernel_rfl
        intro K hK
        go_simp
        refine hK _ _ ?_
        clear hK K
        refine @BigFrame.wpList_want _ _ _ _ _ _ _ ?hw97083 ?_
        case hw97083 => kernel_rfl
        intro K hK
        go_simp
        refine hK _ _ ?_
        clear hK K
        have XD : Kept w3.heap.size w3.heap.size w3 x1.drew := X1.drew
        go_upto_region 3 with fail
        refine wp_region_noPanic ?_
        refine wp_region_held_drew (S := fun w' => Kept w3.heap.size w3.heap.size w3 w') (by kernel_rfl) (XD) (fun hH => ?_)
        refine wpAnyH_take_at (i := 0) 19 (.agg ac) rfl rfl (by kernel_rfl) (by kernel_rfl) (by kernel_rfl) (fun _ _ _ h => h) (yieldsIf_load_known (by kernel_rfl) 23 _ rfl (ab) (0) rfl (.agg ac) (LA.out)) hH ?_
        simp only [List.setIfInBounds_toArray, List.set_cons_zero, List.set_cons_succ]
        refine wpAnyH_take_ex (i := 1) 20 rfl rfl (by kernel_rfl) (by kernel_rfl) (by kernel_rfl) (fun _ _ _ _ h => h) (by kernel_rfl) hH ?_
        apply Exists.intro
        apply And.intro
        · intro w9 _
          go_simp
          first | done | rfl
        simp only [List.setIfInBounds_toArray, List.set_cons_zero, List.set_cons_succ]
        refine wpAnyH_take_at (i := 3) 22 (.agg ac) rfl rfl (by kernel_rfl) (by kernel_rfl) (by kernel_rfl) (fun _ _ _ h => h) (yieldsIf_load_known (by kernel_rfl) 23 _ rfl (ab) (0) rfl (.agg ac) (LA.out)) hH ?_
        simp only [List.setIfInBounds_toArray, List.set_cons_zero, List.set_cons_succ]
        refine wpAnyH_take_ex (i := 4) 23 rfl rfl (by kernel_rfl) (by kernel_rfl) (by kernel_rfl) (fun _ _ _ _ h => h) (by kernel_rfl) hH ?_
        apply Exists.intro
        apply And.intro
        · intro w9 _
          go_simp
          first | done | rfl
        simp only [List.setIfInBounds_toArray, List.set_cons_zero, List.set_cons_succ]
        refine wpAnyH_ready (rs := [2]) (by kernel_rfl) (by simp) ?_
        refine AllReadyH.cons rfl (fun K hK => ?_) AllReadyH.nil
        rw [if_pos (by rfl)]
        go_simp
        go_wp2_with (go_at_call 14; refine (HS1.out _).mono ?_; rintro e x2 ⟨rfl, kx2⟩)
        have X2 : Kept w3.heap.size w3.heap.size w3 x2 := XD.trans (kx2.mono XD.size (fun i hi _ => Nat.ne_of_lt (Nat.lt_of_lt_of_le hi XD.size)))
        refine hK.out _ _ (X2) (fun hH => ?_)
        clear hK K
        refine wpAnyH_ready (rs := [5]) (by kernel_rfl) (by simp) ?_
        refine AllReadyH.cons rfl (fun K hK => ?_) AllReadyH.nil
        rw [if_pos (by rfl)]
        go_simp
        go_wp2_with (go_at_call 15; refine (HS2.out _).mono ?_; rintro e x3 ⟨rfl, kx3⟩)
        have X3 : Kept w3.heap.size w3.heap.size w3 x3 := X2.trans (kx3.mono X2.size (fun i hi _ => Nat.ne_of_lt (Nat.lt_of_lt_of_le hi X2.size)))
        refine hK.out _ _ (X3) (fun hH => ?_)
        clear hK K
        refine wpAnyH_take_ex (i := 6) 25 rfl rfl (by kernel_rfl) (by kernel_rfl) (by kernel_rfl) (fun _ _ _ _ h => h) (by kernel_rfl) hH ?_
        apply Exists.intro
        apply And.intro
        · intro w9 _
          go_simp
          first | done | rfl
        simp only [List.setIfInBounds_toArray, List.set_cons_zero, List.set_cons_succ]
        refine wpAnyH_take_ex (i := 7) 26 rfl rfl (by kernel_rfl) (by kernel_rfl) (by kernel_rfl) (fun _ _ _ _ h => h) (by kernel_rfl) hH ?_
        apply Exists.intro
        apply And.intro
        · intro w9 _
          go_simp
          first | done | rfl
        simp only [List.setIfInBounds_toArray, List.set_cons_zero, List.set_cons_succ]
        refine wpAnyH_take_at (i := 8) 27 (.agg ac) rfl rfl (by kernel_rfl) (by kernel_rfl) (by kernel_rfl) (fun _ _ _ h => h) (yieldsIf_load_known (by kernel_rfl) 23 _ rfl (ab) (0) rfl (.agg ac) (LA.out)) hH ?_
        simp only [List.setIfInBounds_toArray, List.set_cons_zero, List.set_cons_succ]
        refine wpAnyH_take_at (i := 9) 28 (.agg cc) rfl rfl (by kernel_rfl) (by kernel_rfl) (by kernel_rfl) (fun _ _ _ h => h) (yieldsIf_load_known (by kernel_rfl) 23 _ rfl (cb) (0) rfl (.agg cc) (LC.out)) hH ?_
        simp only [List.setIfInBounds_toArray, List.set_cons_zero, List.set_cons_succ]
        refine wpAnyH_take_at (i := 11) 30 (.agg ac) rfl rfl (by kernel_rfl) (by kernel_rfl) (by kernel_rfl) (fun _ _ _ h => h) (yieldsIf_load_known (by kernel_rfl) 23 _ rfl (ab) (0) rfl (.agg ac) (LA.out)) hH ?_
        simp only [List.setIfInBounds_toArray, List.set_cons_zero, List.set_cons_succ]
        refine wpAnyH_take_at (i := 12) 31 (.agg cc) rfl rfl (by kernel_rfl) (by kernel_rfl) (by kernel_rfl) (fun _ _ _ h => h) (yieldsIf_load_known (by kernel_rfl) 23 _ rfl (cb) (0) rfl (.agg cc) (LC.out)) hH ?_
        simp only [List.setIfInBounds_toArray, List.set_cons_zero, List.set_cons_succ]
        refine wpAnyH_ready (rs := [10]) (by kernel_rfl) (by simp) ?_
        refine AllReadyH.cons rfl (fun K hK => ?_) AllReadyH.nil
        rw [if_pos (by rfl)]
        go_simp
        go_wp2_with (go_at_call 16; refine (HT1.out _).mono ?_; rintro e x4 ⟨rfl, kx4⟩)
        have X4 : Kept w3.heap.size w3.heap.size w3 x4 := X3.trans (kx4.mono X3.size (fun i hi _ => Nat.ne_of_lt (Nat.lt_of_lt_of_le hi X3.size)))
        refine hK.out _ _ (X4) (fun hH => ?_)
        clear hK K
        refine wpAnyH_ready (rs := [13]) (by kernel_rfl) (by simp) ?_
        refine AllReadyH.cons rfl (fun K hK => ?_) AllReadyH.nil
        rw [if_pos (by rfl)]
        go_simp
        go_wp2_with (go_at_call 17; refine (HT2.out _).mono ?_; rintro e x5 ⟨rfl, kx5⟩)
        have X5 : Kept w3.heap.size w3.heap.size w3 x5 := X4.trans (kx5.mono X4.size (fun i hi _ => Nat.ne_of_lt (Nat.lt_of_lt_of_le hi X4.size)))
        refine hK.out _ _ (X5) (fun hH => ?_)
        clear hK K
        refine wpAnyH_take_ex (i := 14) 33 rfl rfl (by kernel_rfl) (by kernel_rfl) (by kernel_rfl) (fun _ _ _ _ h => h) (by kernel_rfl) hH ?_
        apply Exists.intro
        apply And.intro
        · intro w9 _
          go_simp
          first | done | rfl
        simp only [List.setIfInBounds_toArray, List.set_cons_zero, List.set_cons_succ]
        refine wpAnyH_take_ex (i := 15) 34 rfl rfl (by kernel_rfl) (by kernel_rfl) (by kernel_rfl) (fun _ _ _ _ h => h) (by kernel_rfl) hH ?_
        apply Exists.intro
        apply And.intro
        · intro w9 _
          go_simp
          first | done | rfl
        simp only [List.setIfInBounds_toArray, List.set_cons_zero, List.set_cons_succ]
        refine wpAnyH_take_ex (i := 16) 35 rfl rfl (by kernel_rfl) (by kernel_rfl) (by kernel_rfl) (fun _ _ _ _ h => h) (by kernel_rfl) hH ?_
        apply Exists.intro
        apply And.intro
        · intro w9 _
          go_simp
          first | done | rfl
        simp only [List.setIfInBounds_toArray, List.set_cons_zero, List.set_cons_succ]
        refine wpAnyH_take_ex (i := 17) 36 rfl rfl (by kernel_rfl) (by kernel_rfl) (by kernel_rfl) (fun _ _ _ _ h => h) (by kernel_rfl) hH ?_
        apply Exists.intro
        apply And.intro
        · intro w9 _
          go_simp
          first | done | rfl
        simp only [List.setIfInBounds_toArray, List.set_cons_zero, List.set_cons_succ]
        refine wpAnyH_take_ex (i := 19) 38 rfl rfl (by kernel_rfl) (by kernel_rfl) (by kernel_rfl) (fun _ _ _ _ h => h) (by kernel_rfl) hH ?_
        apply Exists.intro
        apply And.intro
        · intro w9 _
          go_simp
          first | done | rfl
        simp only [List.setIfInBounds_toArray, List.set_cons_zero, List.set_cons_succ]
        refine wpAnyH_ready (rs := [18]) (by kernel_rfl) (by simp) ?_
        refine AllReadyH.cons rfl (fun K hK => ?_) AllReadyH.nil
        rw [if_pos (by rfl)]
        go_simp
        go_wp2_with (go_at_call 18; refine (HP1.out _).mono ?_; rintro e x6 ⟨rfl, kx6⟩)
        have X6 : Kept w3.heap.size w3.heap.size w3 x6 := X5.trans (kx6.mono X5.size (fun i hi _ => Nat.ne_of_lt (Nat.lt_of_lt_of_le hi X5.size)))
        refine hK.out _ _ (X6) (fun hH => ?_)
        clear hK K
        refine wpAnyH_ready (rs := [20]) (by kernel_rfl) (by simp) ?_
        refine AllReadyH.cons rfl (fun K hK => ?_) AllReadyH.nil
        rw [if_pos (by rfl)]
        go_simp
        go_wp2_with (go_at_call 19; refine (HP2.out _).mono ?_; rintro e x7 ⟨rfl, kx7⟩)
        have X7 : Kept w3.heap.size w3.heap.size w3 x7 := X6.trans (kx7.mono X6.size (fun i hi _ => Nat.ne_of_lt (Nat.lt_of_lt_of_le hi X6.size)))
        refine hK.out _ _ (X7) (fun hH => ?_)
        clear hK K
        refine wpAnyH_take_ex (i := 21) 40 rfl rfl (by kernel_rfl) (by kernel_rfl) (by kernel_rfl) (fun _ _ _ _ h => h) (by kernel_rfl) hH ?_
        apply Exists.intro
        apply And.intro
        · intro w9 _
          go_simp
          first | done | rfl
        simp only [List.setIfInBounds_toArray, List.set_cons_zero, List.set_cons_succ]
        refine wpAnyH_take_ex (i := 22) 41 rfl rfl (by kernel_rfl) (by kernel_rfl) (by kernel_rfl) (fun _ _ _ _ h => h) (by kernel_rfl) hH ?_
        apply Exists.intro
        apply And.intro
        · intro w9 _
          go_simp
          first | done | rfl
        simp only [List.setIfInBounds_toArray, List.set_cons_zero, List.set_cons_succ]
        refine wpAnyH_done (by kernel_rfl) ?_ _
        refine NoPanic.normal ?_
        go_upto_region 6 with fail
        refine wp_region_lit ?_
        refine @wpList_load_known _ _ _ _ _ _ _ ?hw97085 23 (.tmp 5) rfl (ab) (0) rfl (.agg ac) (LA.out _ X7) ?_
        case hw97085 => kernel_rfl
        simp only [Act.put, List.setIfInBounds_toArray, List.set_cons_zero, List.set_cons_succ]
        refine @BigFrame.wpList_want _ _ _ _ _ _ _ ?hw97086 ?_
        case hw97086 => kernel_rfl
        intro K hK
        go_simp
        refine hK _ _ ?_
        clear hK K
        refine @wpList_load_known _ _ _ _ _ _ _ ?hw97087 23 (.tmp 6) rfl (cb) (0) rfl (.agg cc) (LC.out _ X7) ?_
        case hw97087 => kernel_rfl
        simp only [Act.put, List.setIfInBounds_toArray, List.set_cons_zero, List.set_cons_succ]
        refine @wpList_load_known _ _ _ _ _ _ _ ?hw97088 23 (.tmp 7) rfl (db) (0) rfl (.agg dc) (LD.out _ X7) ?_
        case hw97088 => kernel_rfl
        simp only [Act.put, List.setIfInBounds_toArray, List.set_cons_zero, List.set_cons_succ]
        refine @BigFrame.wpList_want _ _ _ _ _ _ _ ?hw97084 ?_
        case hw97084 => kernel_rfl
        intro K hK
        go_simp
        go_at_call 20
        refine (HCX.out _ (KW.out.onto X7)).mono ?_
        rintro e x8 ⟨rfl, k8⟩
        have X8 : Kept w3.heap.size w3.heap.size w3 x8 := X7.onto k8
        refine hK _ _ ?_
        clear hK K
        refine @BigFrame.wpList_want _ _ _ _ _ _ _ ?hw97089 ?_
        case hw97089 => kernel_rfl
        intro K hK
        go_simp
        refine hK _ _ ?_
        clear hK K
        refine @BigFrame.wpList_want _ _ _ _ _ _ _ ?hw97090 ?_
        case hw97090 => kernel_rfl
        intro K hK
        go_simp
        refine hK _ _ ?_
        clear hK K
        go_wp2
        go_ret
        exact ⟨rfl, KW.out.onto X8⟩
  · have hl : decide ((core.size : Int) > 5000) = true := decide_eq_true (by omega)
    generalize (bcells a).toArray = ac at HLA ⊢
    generalize (bcells c).toArray = cc at HLC ⊢
    generalize (bcells d).toArray = dc at HLD ⊢
    clear ha hc hd tab hz
    go_enter Tryd.func4, Tryd.ntmps4
    go_upto_region 0 with fail
    refine wp_region_lit ?_
    refine @BigFrame.wpList_want _ _ _ _ _ _ _ ?hw97063 ?_
    case hw97063 => kernel_rfl
    intro K hK
    go_simp
    refine hK _ _ ?_
    clear hK K
    have kn : Kept w.heap.size w.heap.size w (w.alloc (.cells ac 23)) := (Kept.refl _ _ _).alloc (Nat.le_refl _) _
    have rab := heap_new w (.cells ac 23)
    have Kw1 := kn
    generalize w.alloc (.cells ac 23) = w1 at kn rab Kw1  ⊢
    obtain ⟨ab, hab⟩ : ∃ n, n = w.heap.size := ⟨_, rfl⟩
    rw [← hab] at rab
    (try rw [← hab])
    clear hab kn
    refine @BigFrame.wpList_want _ _ _ _ _ _ _ ?hw97064 ?_
    case hw97064 => kernel_rfl
    intro K hK
    go_simp
    refine hK _ _ ?_
    clear hK K
    have kn : Kept w1.heap.size w1.heap.size w1 (w1.alloc (.cells cc 23)) := (Kept.refl _ _ _).alloc (Nat.le_refl _) _
    have rcb := heap_new w1 (.cells cc 23)
    replace rab := row_kept rab kn
    have Kw2 := Kw1.onto kn
    generalize w1.alloc (.cells cc 23) = w2 at kn rcb Kw2 rab ⊢
    obtain ⟨cb, hcb⟩ : ∃ n, n = w1.heap.size := ⟨_, rfl⟩
    rw [← hcb] at rcb
    (try rw [← hcb])
    clear hcb kn Kw1
    refine @BigFrame.wpList_want _ _ _ _ _ _ _ ?hw97065 ?_
    case hw97065 => kernel_rfl
    intro K hK
    go_simp
    refine hK _ _ ?_
    clear hK K
    have kn : Kept w2.heap.size w2.heap.size w2 (w2.alloc (.cells dc 23)) := (Kept.refl _ _ _).alloc (Nat.le_refl _) _
    have rdb := heap_new w2 (.cells dc 23)
    replace rab := row_kept rab kn
    replace rcb := row_kept rcb kn
    have Kw3 := Kw2.onto kn
    generalize w2.alloc (.cells dc 23) = w3 at kn rdb Kw3 rab rcb ⊢
    obtain ⟨db, hdb⟩ : ∃ n, n = w2.heap.size := ⟨_, rfl⟩
    rw [← hdb] at rdb
    (try rw [← hdb])
    clear hdb kn Kw2
    refine @BigFrame.wpList_want _ _ _ _ _ _ _ ?hw97066 ?_
    case hw97066 => kernel_rfl
    intro K hK
    go_simp
    refine hK _ _ ?_
    clear hK K
    have Rab := Lib.hid rab
    clear rab
    have Rcb := Lib.hid rcb
    clear rcb
    have Rdb := Lib.hid rdb
    clear rdb
    have KW := Lib.hid Kw3
    clear Kw3
    have LA := Lib.hid (fun (x : World) (k : Kept w3.heap.size w3.heap.size w3 x) => HLA.out x ab (row_kept Rab.out k))
    have LC := Lib.hid (fun (x : World) (k : Kept w3.heap.size w3.heap.size w3 x) => HLC.out x cb (row_kept Rcb.out k))
    have LD := Lib.hid (fun (x : World) (k : Kept w3.heap.size w3.heap.size w3 x) => HLD.out x db (row_kept Rdb.out k))
    have KD : Kept w3.heap.size w3.heap.size w3 w3.drew := (Kept.refl _ _ _).drew
    go_upto_region 1 with fail
    refine wp_region_lit ?_
    refine @BigFrame.wpList_want _ _ _ _ _ _ _ ?hw97068 ?_
    case hw97068 => kernel_rfl
    intro K hK
    go_simp
    go_at_call 9
    refine (HAW.out _ KW.out).mono ?_
    rintro e x1 ⟨rfl, X1⟩
    refine hK _ _ ?_
    clear hK K
    refine @BigFrame.wpList_want _ _ _ _ _ _ _ ?hw97069 ?_
    case hw97069 => kernel_rfl
    intro K hK
    go_simp
    refine hK _ _ ?_
    clear hK K
    refine @BigFrame.wpList_want _ _ _ _ _ _ _ ?hw97070 ?_
    case hw97070 => kernel_rfl
    intro K hK
    go_simp
    refine hK _ _ ?_
    clear hK K
    refine @BigFrame.wpList_want _ _ _ _ _ _ _ ?hw97071 ?_
    case hw97071 => kernel_rfl
    intro K hK
    go_simp
    refine hK _ _ ?_
    clear hK K
    refine @BigFrame.wpList_want _ _ _ _ _ _ _ ?hw97072 ?_
    case hw97072 => kernel_rfl
    intro K hK
    go_simp
    refine hK _ _ ?_
    clear hK K
    refine @BigFrame.wpList_want _ _ _ _ _ _ _ ?hw97073 ?_
    case hw97073 => kernel_rfl
    intro K hK
    go_simp
    refine hK _ _ ?_
    clear hK K
    refine @BigFrame.wpList_want _ _ _ _ _ _ _ ?hw97074 ?_
    case hw97074 => kernel_rfl
    intro K hK
    go_simp
    refine hK _ _ ?_
    clear hK K
    go_upto_region 2 with fail
    refine wp_region_lit ?_
    refine @BigFrame.wpList_want _ _ _ _ _ _ _ ?hw97075 ?_
    case hw97075 => kernel_rfl
    intro K hK
    go_simp
    go_at_call 9
    refine (HAW.out _ (KW.out.onto X1)).mono ?_
    rintro e x2 ⟨rfl, k2⟩
    have X2 := X1.onto k2
    refine hK _ _ ?_
    clear hK K
    refine @BigFrame.wpList_want _ _ _ _ _ _ _ ?hw97076 ?_
    case hw97076 => kernel_rfl
    intro K hK
    go_simp
    refine hK _ _ ?_
    clear hK K
    go_wp2
    go_ret
    exact ⟨rfl, KW.out.onto X2⟩

end Go.Proofs.YtdfbmijbmlainaaDoor
