/-
  The law TreeHashes.
-/
import Derived.Test.YtmmgekchfgmcdaaGreatDoorTreeHash
import Derived.Test.YtmmgekchfgmcdaaGreatDoorTreeAwake
import Derived.Test.YtmmgekchfgmcdaaGreatDoorTreeFew
import Derived.Test.YtmmgekchfgmcdaaGreatDoorTreeRefRight
import Derived.Test.YtmmgekchfgmcdaaGreatDoorGA

namespace Go.Proofs.YtmmgekchfgmcdaaGreatDoor
open Go.RowKit Go.Lib

section
variable {P : Program} {ops : Array Oper} {a : Act} {S : World → Prop}
theorem yieldsIf_eql_struct {op : Oper} (hw : Region.wanted op (yielded ops a.tmps) = true) (t t2 : TypeId) (x y : Operand) (ho : op.op = .binOp .eql t x y t2) (A B : Array Value) (hx : a.eval x = .agg A) (hy : a.eval y = .agg B) (hg : P.eqGuardType P.depth t = false) (r : Bool) (hr : ∀ w, (Op.equalIn 10000 t (.agg A) (.agg B)).run P w = .ok r w) : YieldsIf P ops S op (.bool r) a :=
  .inl ⟨hw, fun w _ => by
    unfold execOp
    simp only [ho, hx, hy, Sem.run_bind, run_eqGuard_agg _ _ _ _ _ _ _ hg, run_eql_struct, hr, Result.andThen_ok, Sem.run_pure]⟩
end
theorem few_sizesH {L : List Lf} {P : List Pr} (h : Tt.few L P = true) : L.length ≤ 1000 ∧ P.length ≤ 1000 ∧ ∀ p ∈ P, p.loose.length ≤ 1000 := by
  simp only [Tt.few, Tt.fewp, Bool.and_eq_true, decide_eq_true_eq, List.all_eq_true] at h
  exact ⟨by omega, by omega, fun p hp => Nat.le_trans (h.2.2 p hp) (by decide)⟩
theorem Tt.treeHash_len (L : List Lf) (P : List Pr) : (Tt.treeHash L P).length = 32 := by
  unfold Tt.treeHash
  split
  · exact sum_len32 _
  · obtain ⟨k, hk⟩ : ∃ k, L.length = k + 1 := ⟨L.length - 1, by omega⟩
    rw [hk]
    exact hashSeg_len L P k _ _
set_option maxRecDepth 100000 in
set_option maxHeartbeats 6400000 in
theorem treehashes_walk (lv pv : Value) (L : List Lf) (P : List Pr) (w : World) (hL : Lvs w lv L) (hP : Pts w pv P) (ht : Tab w) :
    Calls Tryz.prog 7 #[.agg #[lv, pv]] w fun e w' => e = .returned (.bool true) ∧ Kept w.heap.size w.heap.size w w' := by
  have ka := (Kept.refl w.heap.size w.heap.size w).alloc (Nat.le_refl _) (.cells #[lv, pv] 27)
  have ta := heap_new w (.cells #[lv, pv] 27)
  have hw0 := ht.lt
  have hL1 := hL.kept ka
  have hP1 := hP.kept ka
  have ht1 := ht.kept ka hw0 hw0
  have hw1 : _ < (w.alloc (.cells #[lv, pv] 27)).heap.size := ht1.lt
  obtain ⟨lad, lc, rfl⟩ := hL.shape
  obtain ⟨pad, pc, rfl⟩ := hP.shape
  obtain ⟨fw, hfw⟩ : ∃ fw, fw = Tt.few L P := ⟨_, rfl⟩
  obtain ⟨rt, hrt⟩ : ∃ rt, rt = Tt.right L P := ⟨_, rfl⟩
  have hsz := fun h : fw = true => few_sizesH (L := L) (P := P) (hfw ▸ h)
  have hr := fun h : rt = true => (show Tt.right L P = true from hrt ▸ h)
  obtain ⟨ln, hln⟩ : ∃ ln, ln = L.length := ⟨_, rfl⟩
  obtain ⟨pn, hpn⟩ : ∃ pn, pn = P.length := ⟨_, rfl⟩
  rw [← hln, ← hpn] at ka ta hL1 hP1 ht1 hw1 ⊢
  clear hln hpn
  go_enter Tryz.func7, Tryz.ntmps7
  go_upto_region 1 with fail
  generalize w.alloc (.cells #[.slice lad ln lc, .slice pad pn pc] 27) = w1 at ka ta hL1 hP1 ht1 hw1 ⊢
  obtain ⟨tb, htb⟩ : ∃ tb, tb = w.heap.size := ⟨_, rfl⟩
  rw [← htb] at ta ⊢
  have K1 := Lib.hid ka
  have T1 := Lib.hid ta
  have HLT := Lib.hid (fun (x : World) (k : Kept w1.heap.size w1.heap.size w1 x) => run_loadVar_row x tb 27 27 _ (0, 0) _ ((k.block tb (lt_of_block T1.out) (Nat.ne_of_lt (lt_of_block T1.out))).trans T1.out) Tryz.underlying27 rfl treeInfo)
  have HFW := Lib.hid (fun (x : World) (k : Kept w1.heap.size w1.heap.size w1 x) => few_calls8 _ _ L P x (hL1.kept k) (hP1.kept k))
  rw [← hfw] at HFW
  have HAW := Lib.hid (fun x => awake_calls8 x)
  have HRF := Lib.hid (fun (hf : fw = true) (x : World) (k : Kept w1.heap.size w1.heap.size w1 x) => refright_calls8 _ _ L P x (hL1.kept k) (hP1.kept k) (hsz hf).2.2)
  rw [← hrt] at HRF
  have HHA := Lib.hid (fun (h : rt = true) (x : World) (k : Kept w1.heap.size w1.heap.size w1 x) => hash_calls8 _ _ L P x (ht1.kept k hw1 hw1) (hL1.kept k) (hP1.kept k) (hr h))
  have HRH := Lib.hid (fun (h : rt = true) (x : World) (k : Kept w1.heap.size w1.heap.size w1 x) => refhash_calls8 _ _ L P x (hL1.kept k) (hP1.kept k) (hr h))
  have HEQ := Lib.hid (fun x => mac_equalIn x (Tt.treeHash L P) (Tt.treeHash_len L P))
  obtain ⟨cu, hcu⟩ : ∃ cu, cu = (bcells (Tt.treeHash L P)).toArray := ⟨_, rfl⟩
  rw [← hcu] at HHA HRH HEQ
  clear hL hP hL1 hP1 ht1 hw1 hw0 ka ta htb hsz hr hrt hfw hcu ht
  cases fw with
  | false =>
    refine wp_region_lit ?_
    refine @wpList_load_known _ _ _ _ _ _ _ ?hw56002 27 (.tmp 1) rfl (tb) (0) rfl (.agg #[.slice lad ln lc, .slice pad pn pc]) (HLT.out w1 (Kept.refl w1.heap.size w1.heap.size w1)) ?_
    case hw56002 => kernel_rfl
    simp only [Act.put, List.setIfInBounds_toArray, List.set_cons_zero, List.set_cons_succ]
    refine @BigFrame.wpList_want _ _ _ _ _ _ _ ?hw56001 ?_
    case hw56001 => kernel_rfl
    intro K hK
    go_simp
    go_at_call 12
    refine (HFW.out w1 (Kept.refl w1.heap.size w1.heap.size w1)).mono ?_
    rintro e w2 ⟨rfl, k2⟩
    have K2 := Lib.hid k2
    clear k2
    refine hK _ _ ?_
    clear hK K
    refine @BigFrame.wpList_want _ _ _ _ _ _ _ ?hw56003 ?_
    case hw56003 => kernel_rfl
    intro K hK
    go_simp
    refine hK _ _ ?_
    clear hK K
    refine @BigFrame.wpList_want _ _ _ _ _ _ _ ?hw56004 ?_
    case hw56004 => kernel_rfl
    intro K hK
    go_simp
    refine hK _ _ ?_
    clear hK K
    refine @wpList_skip _ _ _ _ _ _ _ ?hw56005 ?_
    case hw56005 => kernel_rfl
    simp only [Act.put, List.setIfInBounds_toArray, List.set_cons_zero, List.set_cons_succ]
    refine @wpList_skip _ _ _ _ _ _ _ ?hw56006 ?_
    case hw56006 => kernel_rfl
    simp only [Act.put, List.setIfInBounds_toArray, List.set_cons_zero, List.set_cons_succ]
    refine @wpList_skip _ _ _ _ _ _ _ ?hw56007 ?_
    case hw56007 => kernel_rfl
    simp only [Act.put, List.setIfInBounds_toArray, List.set_cons_zero, List.set_cons_succ]
    refine @BigFrame.wpList_want _ _ _ _ _ _ _ ?hw56008 ?_
    case hw56008 => kernel_rfl
    intro K hK
    go_simp
    refine hK _ _ ?_
    clear hK K
    go_upto_region 2 with fail
    refine wp_region_lit ?_
    refine @BigFrame.wpList_want _ _ _ _ _ _ _ ?hw56009 ?_
    case hw56009 => kernel_rfl
    intro K hK
    go_simp
    go_at_call 9
    refine (HAW.out _).mono ?_
    rintro e w3 ⟨rfl, k3⟩
    have K3 := Lib.hid (K2.out.next1 k3)
    clear k3
    refine hK _ _ ?_
    clear hK K
    refine @BigFrame.wpList_want _ _ _ _ _ _ _ ?hw56010 ?_
    case hw56010 => kernel_rfl
    intro K hK
    go_simp
    refine hK _ _ ?_
    clear hK K
    go_wp2
    go_ret
    exact ⟨rfl, K1.out.next1 K3.out⟩
  | true =>
    have HR2 := Lib.hid (HRF.out rfl)
    clear HRF
    cases rt with
    | false =>
      refine wp_region_lit ?_
      refine @wpList_load_known _ _ _ _ _ _ _ ?hw56013 27 (.tmp 1) rfl (tb) (0) rfl (.agg #[.slice lad ln lc, .slice pad pn pc]) (HLT.out w1 (Kept.refl w1.heap.size w1.heap.size w1)) ?_
      case hw56013 => kernel_rfl
      simp only [Act.put, List.setIfInBounds_toArray, List.set_cons_zero, List.set_cons_succ]
      refine @BigFrame.wpList_want _ _ _ _ _ _ _ ?hw56011 ?_
      case hw56011 => kernel_rfl
      intro K hK
      go_simp
      go_at_call 12
      refine (HFW.out w1 (Kept.refl w1.heap.size w1.heap.size w1)).mono ?_
      rintro e w2 ⟨rfl, k2⟩
      have K2 := Lib.hid k2
      clear k2
      refine hK _ _ ?_
      clear hK K
      refine @BigFrame.wpList_want _ _ _ _ _ _ _ ?hw56014 ?_
      case hw56014 => kernel_rfl
      intro K hK
      go_simp
      refine hK _ _ ?_
      clear hK K
      refine @BigFrame.wpList_want _ _ _ _ _ _ _ ?hw56015 ?_
      case hw56015 => kernel_rfl
      intro K hK
      go_simp
      refine hK _ _ ?_
      clear hK K
      refine @wpList_load_known _ _ _ _ _ _ _ ?hw56016 27 (.tmp 1) rfl (tb) (0) rfl (.agg #[.slice lad ln lc, .slice pad pn pc]) (HLT.out w2 K2.out) ?_
      case hw56016 => kernel_rfl
      simp only [Act.put, List.setIfInBounds_toArray, List.set_cons_zero, List.set_cons_succ]
      refine @BigFrame.wpList_want _ _ _ _ _ _ _ ?hw56012 ?_
      case hw56012 => kernel_rfl
      intro K hK
      go_simp
      go_at_call 13
      refine (HR2.out w2 K2.out).mono ?_
      rintro e w3 ⟨rfl, k3⟩
      have K3 := Lib.hid (K2.out.next1 k3)
      clear k3
      refine hK _ _ ?_
      clear hK K
      refine @BigFrame.wpList_want _ _ _ _ _ _ _ ?hw56017 ?_
      case hw56017 => kernel_rfl
      intro K hK
      go_simp
      refine hK _ _ ?_
      clear hK K
      refine @BigFrame.wpList_want _ _ _ _ _ _ _ ?hw56018 ?_
      case hw56018 => kernel_rfl
      intro K hK
      go_simp
      refine hK _ _ ?_
      clear hK K
      go_upto_region 2 with fail
      refine wp_region_lit ?_
      refine @BigFrame.wpList_want _ _ _ _ _ _ _ ?hw56019 ?_
      case hw56019 => kernel_rfl
      intro K hK
      go_simp
      go_at_call 9
      refine (HAW.out _).mono ?_
      rintro e w4 ⟨rfl, k4⟩
      have K4 := Lib.hid (K3.out.next1 k4)
      clear k4
      refine hK _ _ ?_
      clear hK K
      refine @BigFrame.wpList_want _ _ _ _ _ _ _ ?hw56020 ?_
      case hw56020 => kernel_rfl
      intro K hK
      go_simp
      refine hK _ _ ?_
      clear hK K
      go_wp2
      go_ret
      exact ⟨rfl, K1.out.next1 K4.out⟩
    | true =>
      have HH2 := Lib.hid (HHA.out rfl)
      have HD2 := Lib.hid (HRH.out rfl)
      clear HHA HRH
      refine wp_region_lit ?_
      refine @wpList_load_known _ _ _ _ _ _ _ ?hw56023 27 (.tmp 1) rfl (tb) (0) rfl (.agg #[.slice lad ln lc, .slice pad pn pc]) (HLT.out w1 (Kept.refl w1.heap.size w1.heap.size w1)) ?_
      case hw56023 => kernel_rfl
      simp only [Act.put, List.setIfInBounds_toArray, List.set_cons_zero, List.set_cons_succ]
      refine @BigFrame.wpList_want _ _ _ _ _ _ _ ?hw56021 ?_
      case hw56021 => kernel_rfl
      intro K hK
      go_simp
      go_at_call 12
      refine (HFW.out w1 (Kept.refl w1.heap.size w1.heap.size w1)).mono ?_
      rintro e w2 ⟨rfl, k2⟩
      have K2 := Lib.hid k2
      clear k2
      refine hK _ _ ?_
      clear hK K
      refine @BigFrame.wpList_want _ _ _ _ _ _ _ ?hw56024 ?_
      case hw56024 => kernel_rfl
      intro K hK
      go_simp
      refine hK _ _ ?_
      clear hK K
      refine @BigFrame.wpList_want _ _ _ _ _ _ _ ?hw56025 ?_
      case hw56025 => kernel_rfl
      intro K hK
      go_simp
      refine hK _ _ ?_
      clear hK K
      refine @wpList_load_known _ _ _ _ _ _ _ ?hw56026 27 (.tmp 1) rfl (tb) (0) rfl (.agg #[.slice lad ln lc, .slice pad pn pc]) (HLT.out w2 K2.out) ?_
      case hw56026 => kernel_rfl
      simp only [Act.put, List.setIfInBounds_toArray, List.set_cons_zero, List.set_cons_succ]
      refine @BigFrame.wpList_want _ _ _ _ _ _ _ ?hw56022 ?_
      case hw56022 => kernel_rfl
      intro K hK
      go_simp
      go_at_call 13
      refine (HR2.out w2 K2.out).mono ?_
      rintro e w3 ⟨rfl, k3⟩
      have K3 := Lib.hid (K2.out.next1 k3)
      clear k3
      refine hK _ _ ?_
      clear hK K
      refine @BigFrame.wpList_want _ _ _ _ _ _ _ ?hw56027 ?_
      case hw56027 => kernel_rfl
      intro K hK
      go_simp
      refine hK _ _ ?_
      clear hK K
      refine @BigFrame.wpList_want _ _ _ _ _ _ _ ?hw56028 ?_
      case hw56028 => kernel_rfl
      intro K hK
      go_simp
      refine hK _ _ ?_
      clear hK K
      go_upto_region 3 with fail
      have KD : Kept w1.heap.size w1.heap.size w1 w3.drew := K3.out.drew
      refine wp_region_noPanic ?_
      refine wp_region_held_drew (S := fun w' => Kept w1.heap.size w1.heap.size w1 w') (by kernel_rfl) (K3.out.drew) (fun hH => ?_)
      refine wpAnyH_ready (rs := [0]) (by kernel_rfl) (by simp) ?_
      refine AllReadyH.cons rfl (fun K hK => ?_) AllReadyH.nil
      rw [if_pos (by rfl)]
      go_simp
      go_wp2_with (go_at_call 9; refine (HAW.out _).mono ?_; rintro e w4 ⟨rfl, kw4⟩)
      have KE : Kept w1.heap.size w1.heap.size w1 w4 := KD.next1 kw4
      refine hK.out _ _ (KE) (fun hH => ?_)
      clear hK K
      refine wpAnyH_take_ex (i := 1) 13 rfl rfl (by kernel_rfl) (by kernel_rfl) (by kernel_rfl) (fun _ _ _ _ h => h) (by kernel_rfl) hH ?_
      apply Exists.intro
      apply And.intro
      · intro w9 _
        go_simp
        first | done | rfl
      simp only [List.setIfInBounds_toArray, List.set_cons_zero, List.set_cons_succ]
      refine wpAnyH_take_at (i := 2) 14 (.agg #[.slice lad ln lc, .slice pad pn pc]) rfl rfl (by kernel_rfl) (by kernel_rfl) (by kernel_rfl) (fun _ _ _ h => h) (yieldsIf_load_known (by kernel_rfl) 27 _ rfl (tb) (0) rfl (.agg #[.slice lad ln lc, .slice pad pn pc]) (HLT.out)) hH ?_
      simp only [List.setIfInBounds_toArray, List.set_cons_zero, List.set_cons_succ]
      refine wpAnyH_take_at (i := 4) 16 (.agg #[.slice lad ln lc, .slice pad pn pc]) rfl rfl (by kernel_rfl) (by kernel_rfl) (by kernel_rfl) (fun _ _ _ h => h) (yieldsIf_load_known (by kernel_rfl) 27 _ rfl (tb) (0) rfl (.agg #[.slice lad ln lc, .slice pad pn pc]) (HLT.out)) hH ?_
      simp only [List.setIfInBounds_toArray, List.set_cons_zero, List.set_cons_succ]
      refine wpAnyH_ready (rs := [3]) (by kernel_rfl) (by simp) ?_
      refine AllReadyH.cons rfl (fun K hK => ?_) AllReadyH.nil
      rw [if_pos (by rfl)]
      go_simp
      go_wp2_with (go_at_call 17; refine (HH2.out _ KE).mono ?_; rintro e w5 ⟨rfl, kw5⟩)
      have KF : Kept w1.heap.size w1.heap.size w1 w5 := KE.next1 kw5
      refine hK.out _ _ (KF) (fun hH => ?_)
      clear hK K
      refine wpAnyH_ready (rs := [5]) (by kernel_rfl) (by simp) ?_
      refine AllReadyH.cons rfl (fun K hK => ?_) AllReadyH.nil
      rw [if_pos (by rfl)]
      go_simp
      go_wp2_with (go_at_call 18; refine (HD2.out _ KF).mono ?_; rintro e w6 ⟨rfl, kw6⟩)
      have KG : Kept w1.heap.size w1.heap.size w1 w6 := KF.next1 kw6
      refine hK.out _ _ (KG) (fun hH => ?_)
      clear hK K
      refine wpAnyH_take_at (i := 6) 18 (.bool true) rfl rfl (by kernel_rfl) (by kernel_rfl) (by kernel_rfl) (fun _ _ _ h => h) (yieldsIf_eql_struct (by kernel_rfl) _ _ _ _ rfl (cu) (cu) rfl rfl macGuard25 true (fun x => HEQ.out x)) hH ?_
      simp only [List.setIfInBounds_toArray, List.set_cons_zero, List.set_cons_succ]
      refine wpAnyH_take_ex (i := 7) 19 rfl rfl (by kernel_rfl) (by kernel_rfl) (by kernel_rfl) (fun _ _ _ _ h => h) (by kernel_rfl) hH ?_
      apply Exists.intro
      apply And.intro
      · intro w9 _
        go_simp
        first | done | rfl
      simp only [List.setIfInBounds_toArray, List.set_cons_zero, List.set_cons_succ]
      refine wpAnyH_take_ex (i := 8) 2 rfl rfl (by kernel_rfl) (by kernel_rfl) (by kernel_rfl) (fun _ _ _ _ h => h) (by kernel_rfl) hH ?_
      apply Exists.intro
      apply And.intro
      · intro w9 _
        go_simp
        first | done | rfl
      simp only [List.setIfInBounds_toArray, List.set_cons_zero, List.set_cons_succ]
      refine wpAnyH_done (by kernel_rfl) ?_ _
      refine NoPanic.normal ?_
      go_wp2
      go_ret
      exact ⟨rfl, K1.out.next1 KG⟩

end Go.Proofs.YtmmgekchfgmcdaaGreatDoor
