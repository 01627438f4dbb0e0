/-
  The document's text, leaf and parent.
-/
import Derived.Test.YtmmgekchfgmcdaaGreatDoorTreeText
import Derived.Test.YtmmgekchfgmcdaaGreatDoorGV
import Derived.Test.YtmmgekchfgmcdaaGreatDoorHeldEx

namespace Go.Proofs.YtmmgekchfgmcdaaGreatDoor
open Go.RowKit Go.Lib

set_option maxRecDepth 100000 in
set_option maxHeartbeats 1600000 in
theorem load_ints9 {w : World} {g o : Nat} {a : Option Addr} {n c : Nat} (h : w.cell? ⟨g, o, none⟩ = some (.slice a n c)) : (loadVar 35 ⟨g, o, none⟩).run Tryz.prog w = .ok (.slice a n c) w := by
  go_simp
set_option maxRecDepth 100000 in
set_option maxHeartbeats 1600000 in
theorem text_calls8 (k : List UInt8) (hk : k.length = 32) (w : World) : Calls Tryz.prog 69 #[.agg (bcells k).toArray] w fun e w' => e = .returned (.string (str k)) ∧ Kept w.heap.size w.heap.size w w' := by
  obtain ⟨sk, hsk⟩ : ∃ sk, sk = str k := ⟨_, rfl⟩
  rw [← hsk]
  have Hsk := Lib.hid hsk
  generalize hkc : (bcells k).toArray = kc
  have cA : (convert 132 9 (.slice (some ⟨w.heap.size, 0, none⟩) 32 32)).run Tryz.prog (w.alloc (.cells kc 38)) = .ok (.string sk) (w.alloc (.cells kc 38)) := by
    rw [hsk]
    exact lit_string w kc 38 k 32 hk hkc.symm
  clear hkc hsk
  go_enter Tryz.func69, Tryz.ntmps69
  go_upto_region 1 with fail
  have k1 : Kept w.heap.size w.heap.size w (w.alloc (.cells kc 38)) := (Kept.refl _ _ _).alloc (Nat.le_refl _) _
  obtain ⟨wa, hwa⟩ : ∃ wa, wa = w.heap.size := ⟨_, rfl⟩
  rw [← hwa] at cA ⊢
  generalize w.alloc (.cells kc 38) = w1 at cA k1 ⊢
  have K1 := Lib.hid k1
  clear hwa k1
  go_wp2
  go_ret
  exact ⟨rfl, K1.out⟩
set_option maxRecDepth 100000 in
set_option maxHeartbeats 6400000 in
theorem refleaf_calls (l : Lf) (hok : l.Ok) (h0 : 0 ≤ l.name) (h64 : l.name ≤ 64) (w : World) : Calls Tryz.prog 65 #[.agg l.cells.toArray] w fun e w' => e = .returned (.string (str (Tt.leafText l))) ∧ Kept w.heap.size w.heap.size w w' := by
  obtain ⟨nn, hnn⟩ : ∃ nn : Nat, l.name = (nn : Int) := ⟨l.name.toNat, by omega⟩
  have HOK := Lib.hid hok
  have HNN := Lib.hid hnn
  have HNU := Lib.hid (fun u => refnum nn u (by omega))
  obtain ⟨ss, hss⟩ : ∃ ss, ss = str (Tt.leafText l) := ⟨_, rfl⟩
  rw [← hss]
  have HSS := Lib.hid hss
  obtain ⟨sn, hsn⟩ : ∃ sn, sn = str (Wm.enc nn) := ⟨_, rfl⟩
  rw [← hsn] at HNU
  have HSN := Lib.hid hsn
  obtain ⟨D, hD⟩ : ∃ D, D = l.cells.toArray := ⟨_, rfl⟩
  rw [← hD]
  have HDE := Lib.hid hD
  clear hok hss hsn hD h0
  go_enter Tryz.func65, Tryz.ntmps65
  go_upto_region 1 with fail
  have k1 := (Kept.refl w.heap.size w.heap.size w).alloc (Nat.le_refl _) (.cells D 48)
  have b1 := heap_new w (.cells D 48)
  generalize w.alloc (.cells D 48) = w1 at k1 b1 ⊢
  obtain ⟨lb, hlb⟩ : ∃ lb, lb = w.heap.size := ⟨_, rfl⟩
  rw [← hlb] at b1
  (try rw [← hlb])
  rw [HDE.out] at b1
  have K1 := Lib.hid k1
  have B1 := Lib.hid b1
  clear k1 b1 hlb
  have c0 := lf_name B1.out
  rw [HNN.out] at c0
  have HFL := Lib.hid (fun (x : Bool) u => refflag x u)
  by_cases hz : nn = 0
  · have hgt : ¬ (0 : Int) < (nn : Int) := by omega
    have hgt2 : ¬ 0 < nn := by omega
    have hge : ¬ (nn : Int) > 0 := by omega
    have HRE := Lib.hid (show str [0] = ss by rw [HSS.out, Tt.leafText, if_neg (by rw [HNN.out]; omega)])
    clear hz
    refine wp_region_lit ?_
    refine @BigFrame.wpList_want _ _ _ _ _ _ _ ?hw50007 ?_
    case hw50007 => kernel_rfl
    intro K hK
    go_simp
    refine hK _ _ ?_
    clear hK K
    refine @BigFrame.wpList_want _ _ _ _ _ _ _ ?hw50008 ?_
    case hw50008 => kernel_rfl
    intro K hK
    go_simp
    refine hK _ _ ?_
    clear hK K
    refine @BigFrame.wpList_want _ _ _ _ _ _ _ ?hw50009 ?_
    case hw50009 => kernel_rfl
    intro K hK
    go_simp
    refine hK _ _ ?_
    clear hK K
    refine @BigFrame.wpList_want _ _ _ _ _ _ _ ?hw50006 ?_
    case hw50006 => kernel_rfl
    intro K hK
    go_simp
    go_at_call 108
    refine ((HFL.out false _).mono (fun e w' h => show e = .returned (.string (str [0])) ∧ w' = w1 from ⟨by rw [h.1]; rfl, h.2.symm⟩)).mono ?_
    rintro e w2 ⟨rfl, hw2⟩
    subst w2
    refine hK _ _ ?_
    clear hK K
    refine @BigFrame.wpList_want _ _ _ _ _ _ _ ?hw50010 ?_
    case hw50010 => kernel_rfl
    intro K hK
    go_simp
    refine hK _ _ ?_
    clear hK K
    rw [HRE.out]
    go_upto_region 2 with fail
    refine wp_region_lit ?_
    refine @BigFrame.wpList_want _ _ _ _ _ _ _ ?hw50011 ?_
    case hw50011 => kernel_rfl
    intro K hK
    go_simp
    refine hK _ _ ?_
    clear hK K
    refine @BigFrame.wpList_want _ _ _ _ _ _ _ ?hw50012 ?_
    case hw50012 => kernel_rfl
    intro K hK
    go_simp
    refine hK _ _ ?_
    clear hK K
    refine @BigFrame.wpList_want _ _ _ _ _ _ _ ?hw50013 ?_
    case hw50013 => kernel_rfl
    intro K hK
    go_simp
    refine hK _ _ ?_
    clear hK K
    clear c0 hgt hgt2 hge
    go_wp2
    go_ret
    exact ⟨rfl, K1.out⟩
  · have hgt : (0 : Int) < (nn : Int) := by omega
    have hgt2 : 0 < nn := by omega
    have hge : (nn : Int) > 0 := by omega
    obtain ⟨s1, hs1⟩ : ∃ s1, s1 = str [1] := ⟨_, rfl⟩
    obtain ⟨sp, hsp⟩ : ∃ sp, sp = str l.pub := ⟨_, rfl⟩
    obtain ⟨sv, hsv⟩ : ∃ sv, sv = str l.ver := ⟨_, rfl⟩
    obtain ⟨sa, hsa⟩ : ∃ sa, sa = str l.abv := ⟨_, rfl⟩
    have HRE := Lib.hid (show s1 ++ sn ++ sp ++ sv ++ sa = ss by
      rw [HSS.out, Tt.leafText, if_pos (by rw [HNN.out]; omega), HSN.out, hs1, hsp, hsv, hsa, HNN.out, Int.toNat_natCast, str_append, str_append, str_append, str_append])
    have z1 : s1.size = 1 := by rw [hs1, str_size]; rfl
    have z2 : sn.size ≤ 8 := by rw [HSN.out, str_size]; exact Wm.enc_length_le nn
    have z3 : sp.size = 32 := by rw [hsp, str_size]; exact HOK.out.1
    have z4 : sv.size = 32 := by rw [hsv, str_size]; exact HOK.out.2.1
    have z5 : sa.size = 32 := by rw [hsa, str_size]; exact HOK.out.2.2
    have q1 : ¬ 9223372036854775807 < s1.size + sn.size := by omega
    have q2 : ¬ 9223372036854775807 < s1.size + sn.size + sp.size := by omega
    have q3 : ¬ 9223372036854775807 < s1.size + sn.size + sp.size + sv.size := by omega
    have q4 : ¬ 9223372036854775807 < s1.size + sn.size + sp.size + sv.size + sa.size := by omega
    clear z1 z2 z3 z4 z5
    have HFL1 := Lib.hid (fun u => (HFL.out true u).mono (fun e w' h => show e = .returned (.string s1) ∧ w' = u from ⟨by rw [h.1, hs1]; rfl, h.2.symm⟩))
    have HTP := Lib.hid (fun u => text_calls8 l.pub HOK.out.1 u)
    have HTV := Lib.hid (fun u => text_calls8 l.ver HOK.out.2.1 u)
    have HTA := Lib.hid (fun u => text_calls8 l.abv HOK.out.2.2 u)
    rw [← hsp] at HTP
    rw [← hsv] at HTV
    rw [← hsa] at HTA
    have HLN := Lib.hid (fun (x : World) (k : Kept w1.heap.size w1.heap.size w1 x) => load_int ((k.cell (p := ⟨lb, 0, none⟩) (lt_of_block B1.out) (Nat.ne_of_lt (lt_of_block B1.out))).trans c0))
    have HLP := Lib.hid (fun (x : World) (k : Kept w1.heap.size w1.heap.size w1 x) => run_loadVar_mid x lb 1 39 (bcells l.pub) _ (rangeAt_kept k (lf_part B1.out 1 l.pub HOK.out.1 (Lf.part_pub HOK.out)) (lt_of_block B1.out) (Nat.ne_of_lt (lt_of_block B1.out))) Tryz.underlying39 rfl (hashInfoT (by rw [bcells_length, HOK.out.1])))
    have HLV := Lib.hid (fun (x : World) (k : Kept w1.heap.size w1.heap.size w1 x) => run_loadVar_mid x lb 33 39 (bcells l.ver) _ (rangeAt_kept k (lf_part B1.out 33 l.ver HOK.out.2.1 (Lf.part_ver HOK.out)) (lt_of_block B1.out) (Nat.ne_of_lt (lt_of_block B1.out))) Tryz.underlying39 rfl (hashInfoT (by rw [bcells_length, HOK.out.2.1])))
    have HLA := Lib.hid (fun (x : World) (k : Kept w1.heap.size w1.heap.size w1 x) => run_loadVar_mid x lb 65 39 (bcells l.abv) _ (rangeAt_kept k (lf_part B1.out 65 l.abv HOK.out.2.2 (Lf.part_abv HOK.out)) (lt_of_block B1.out) (Nat.ne_of_lt (lt_of_block B1.out))) Tryz.underlying39 rfl (hashInfoT (by rw [bcells_length, HOK.out.2.2])))
    obtain ⟨DP, hDP⟩ : ∃ D, D = (bcells l.pub).toArray := ⟨_, rfl⟩
    obtain ⟨DV, hDV⟩ : ∃ D, D = (bcells l.ver).toArray := ⟨_, rfl⟩
    obtain ⟨DA, hDA⟩ : ∃ D, D = (bcells l.abv).toArray := ⟨_, rfl⟩
    rw [← hDP] at HTP HLP
    rw [← hDV] at HTV HLV
    rw [← hDA] at HTA HLA
    clear hz hs1 hsp hsv hsa hDP hDV hDA
    refine wp_region_lit ?_
    refine @BigFrame.wpList_want _ _ _ _ _ _ _ ?hw50015 ?_
    case hw50015 => kernel_rfl
    intro K hK
    go_simp
    refine hK _ _ ?_
    clear hK K
    refine @BigFrame.wpList_want _ _ _ _ _ _ _ ?hw50016 ?_
    case hw50016 => kernel_rfl
    intro K hK
    go_simp
    refine hK _ _ ?_
    clear hK K
    refine @BigFrame.wpList_want _ _ _ _ _ _ _ ?hw50017 ?_
    case hw50017 => kernel_rfl
    intro K hK
    go_simp
    refine hK _ _ ?_
    clear hK K
    refine @BigFrame.wpList_want _ _ _ _ _ _ _ ?hw50014 ?_
    case hw50014 => kernel_rfl
    intro K hK
    go_simp
    go_at_call 108
    refine (HFL1.out _).mono ?_
    rintro e w2 ⟨rfl, hw2⟩
    subst w2
    refine hK _ _ ?_
    clear hK K
    refine @BigFrame.wpList_want _ _ _ _ _ _ _ ?hw50018 ?_
    case hw50018 => kernel_rfl
    intro K hK
    go_simp
    refine hK _ _ ?_
    clear hK K
    go_upto_region 2 with fail
    refine wp_region_lit ?_
    refine @BigFrame.wpList_want _ _ _ _ _ _ _ ?hw50019 ?_
    case hw50019 => kernel_rfl
    intro K hK
    go_simp
    refine hK _ _ ?_
    clear hK K
    refine @BigFrame.wpList_want _ _ _ _ _ _ _ ?hw50020 ?_
    case hw50020 => kernel_rfl
    intro K hK
    go_simp
    refine hK _ _ ?_
    clear hK K
    refine @BigFrame.wpList_want _ _ _ _ _ _ _ ?hw50021 ?_
    case hw50021 => kernel_rfl
    intro K hK
    go_simp
    refine hK _ _ ?_
    clear hK K
    clear c0 hgt hgt2 hge
    go_upto_region 3 with fail
    have KD : Kept w1.heap.size w1.heap.size w1 w1.drew := (Kept.refl _ _ _).drew
    refine wp_region_noPanic ?_
    refine wp_region_held_drew (S := fun w' => Kept w1.heap.size w1.heap.size w1 w') (by kernel_rfl) ((Kept.refl _ _ _).drew) (fun hH => ?_)
    refine wpAnyH_take_ex (i := 0) 11 rfl rfl (by kernel_rfl) (by kernel_rfl) (by kernel_rfl) (fun _ _ _ _ h => h) (by kernel_rfl) hH ?_
    apply Exists.intro
    apply And.intro
    · intro w9 _
      go_simp
      first | done | rfl
    simp only [List.setIfInBounds_toArray, List.set_cons_zero, List.set_cons_succ]
    refine wpAnyH_take_ex (i := 1) 12 rfl rfl (by kernel_rfl) (by kernel_rfl) (by kernel_rfl) (fun _ _ _ _ h => h) (by kernel_rfl) hH ?_
    apply Exists.intro
    apply And.intro
    · intro w9 _
      go_simp
      first | done | rfl
    simp only [List.setIfInBounds_toArray, List.set_cons_zero, List.set_cons_succ]
    refine wpAnyH_take_at (i := 2) 13 (.int .i64 (nn : Int)) rfl rfl (by kernel_rfl) (by kernel_rfl) (by kernel_rfl) (fun _ _ _ h => h) (yieldsIf_load_known (by kernel_rfl) 3 _ rfl (lb) (0) rfl (.int .i64 (nn : Int)) (HLN.out)) hH ?_
    simp only [List.setIfInBounds_toArray, List.set_cons_zero, List.set_cons_succ]
    refine wpAnyH_take_ex (i := 5) 16 rfl rfl (by kernel_rfl) (by kernel_rfl) (by kernel_rfl) (fun _ _ _ _ h => h) (by kernel_rfl) hH ?_
    apply Exists.intro
    apply And.intro
    · intro w9 _
      go_simp
      first | done | rfl
    simp only [List.setIfInBounds_toArray, List.set_cons_zero, List.set_cons_succ]
    refine wpAnyH_take_at (i := 6) 17 (.agg DP) rfl rfl (by kernel_rfl) (by kernel_rfl) (by kernel_rfl) (fun _ _ _ h => h) (yieldsIf_load_known (by kernel_rfl) 39 _ rfl (lb) (1) rfl (.agg DP) (HLP.out)) hH ?_
    simp only [List.setIfInBounds_toArray, List.set_cons_zero, List.set_cons_succ]
    refine wpAnyH_take_ex (i := 9) 20 rfl rfl (by kernel_rfl) (by kernel_rfl) (by kernel_rfl) (fun _ _ _ _ h => h) (by kernel_rfl) hH ?_
    apply Exists.intro
    apply And.intro
    · intro w9 _
      go_simp
      first | done | rfl
    simp only [List.setIfInBounds_toArray, List.set_cons_zero, List.set_cons_succ]
    refine wpAnyH_take_at (i := 10) 21 (.agg DV) rfl rfl (by kernel_rfl) (by kernel_rfl) (by kernel_rfl) (fun _ _ _ h => h) (yieldsIf_load_known (by kernel_rfl) 39 _ rfl (lb) (33) rfl (.agg DV) (HLV.out)) hH ?_
    simp only [List.setIfInBounds_toArray, List.set_cons_zero, List.set_cons_succ]
    refine wpAnyH_take_ex (i := 13) 24 rfl rfl (by kernel_rfl) (by kernel_rfl) (by kernel_rfl) (fun _ _ _ _ h => h) (by kernel_rfl) hH ?_
    apply Exists.intro
    apply And.intro
    · intro w9 _
      go_simp
      first | done | rfl
    simp only [List.setIfInBounds_toArray, List.set_cons_zero, List.set_cons_succ]
    refine wpAnyH_take_at (i := 14) 25 (.agg DA) rfl rfl (by kernel_rfl) (by kernel_rfl) (by kernel_rfl) (fun _ _ _ h => h) (yieldsIf_load_known (by kernel_rfl) 39 _ rfl (lb) (65) rfl (.agg DA) (HLA.out)) hH ?_
    simp only [List.setIfInBounds_toArray, List.set_cons_zero, List.set_cons_succ]
    refine wpAnyH_ready (rs := [3]) (by kernel_rfl) (by simp) ?_
    refine AllReadyH.cons rfl (fun K hK => ?_) AllReadyH.nil
    rw [if_pos (by rfl)]
    go_simp
    go_wp2_with (go_at_call 64; refine (HNU.out _).mono ?_; rintro e w4 ⟨rfl, kw4⟩)
    have K4 : Kept w1.heap.size w1.heap.size w1 w4 := KD.next1 kw4
    refine hK.out _ _ (K4) (fun hH => ?_)
    clear hK K
    refine wpAnyH_take_ex (i := 4) 15 rfl rfl (by kernel_rfl) (by kernel_rfl) (by kernel_rfl) (fun _ _ _ _ h => h) (by kernel_rfl) hH ?_
    apply Exists.intro
    apply And.intro
    · intro w9 _
      go_simp
      first | done | rfl
    simp only [List.setIfInBounds_toArray, List.set_cons_zero, List.set_cons_succ]
    refine wpAnyH_ready (rs := [7]) (by kernel_rfl) (by simp) ?_
    refine AllReadyH.cons rfl (fun K hK => ?_) AllReadyH.nil
    rw [if_pos (by rfl)]
    go_simp
    go_wp2_with (go_at_call 69; refine (HTP.out _).mono ?_; rintro e w5 ⟨rfl, kw5⟩)
    have K5 : Kept w1.heap.size w1.heap.size w1 w5 := K4.next1 kw5
    refine hK.out _ _ (K5) (fun hH => ?_)
    clear hK K
    refine wpAnyH_take_ex (i := 8) 19 rfl rfl (by kernel_rfl) (by kernel_rfl) (by kernel_rfl) (fun _ _ _ _ h => h) (by kernel_rfl) hH ?_
    apply Exists.intro
    apply And.intro
    · intro w9 _
      go_simp
      first | done | rfl
    simp only [List.setIfInBounds_toArray, List.set_cons_zero, List.set_cons_succ]
    refine wpAnyH_ready (rs := [11]) (by kernel_rfl) (by simp) ?_
    refine AllReadyH.cons rfl (fun K hK => ?_) AllReadyH.nil
    rw [if_pos (by rfl)]
    go_simp
    go_wp2_with (go_at_call 69; refine (HTV.out _).mono ?_; rintro e w6 ⟨rfl, kw6⟩)
    have K6 : Kept w1.heap.size w1.heap.size w1 w6 := K5.next1 kw6
    refine hK.out _ _ (K6) (fun hH => ?_)
    clear hK K
    refine wpAnyH_take_ex (i := 12) 23 rfl rfl (by kernel_rfl) (by kernel_rfl) (by kernel_rfl) (fun _ _ _ _ h => h) (by kernel_rfl) hH ?_
    apply Exists.intro
    apply And.intro
    · intro w9 _
      go_simp
      first | done | rfl
    simp only [List.setIfInBounds_toArray, List.set_cons_zero, List.set_cons_succ]
    refine wpAnyH_ready (rs := [15]) (by kernel_rfl) (by simp) ?_
    refine AllReadyH.cons rfl (fun K hK => ?_) AllReadyH.nil
    rw [if_pos (by rfl)]
    go_simp
    go_wp2_with (go_at_call 69; refine (HTA.out _).mono ?_; rintro e w7 ⟨rfl, kw7⟩)
    have K7 : Kept w1.heap.size w1.heap.size w1 w7 := K6.next1 kw7
    refine hK.out _ _ (K7) (fun hH => ?_)
    clear hK K
    refine wpAnyH_take_ex (i := 16) 27 rfl rfl (by kernel_rfl) (by kernel_rfl) (by kernel_rfl) (fun _ _ _ _ h => h) (by kernel_rfl) hH ?_
    apply Exists.intro
    apply And.intro
    · intro w9 _
      go_simp
      first | done | rfl
    simp only [List.setIfInBounds_toArray, List.set_cons_zero, List.set_cons_succ]
    refine wpAnyH_take_ex (i := 17) 3 rfl rfl (by kernel_rfl) (by kernel_rfl) (by kernel_rfl) (fun _ _ _ _ h => h) (by kernel_rfl) hH ?_
    apply Exists.intro
    apply And.intro
    · intro w9 _
      go_simp
      first | done | rfl
    simp only [List.setIfInBounds_toArray, List.set_cons_zero, List.set_cons_succ]
    refine wpAnyH_done (by kernel_rfl) ?_ _
    refine NoPanic.normal ?_
    clear hH
    rw [HRE.out]
    go_wp2
    go_ret
    exact ⟨rfl, K1.out.next1 K7⟩

set_option maxRecDepth 100000 in
set_option maxHeartbeats 6400000 in
theorem refparent_calls (p : Pr) (hok : p.Ok) (s : Value) (w : World) (hs : Nums w s p.loose) (hl : p.loose.length ≤ 1000) (hlo : ∀ y ∈ p.loose, 0 ≤ y ∧ y ≤ 64) : Calls Tryz.prog 66 #[.agg (p.cells s).toArray] w fun e w' => e = .returned (.string (str (Tt.parentText p))) ∧ Kept w.heap.size w.heap.size w w' := by
  obtain ⟨sad, sc, ng, no, rfl, hnc⟩ := hs
  obtain ⟨ln, hln⟩ : ∃ ln, ln = p.loose.length := ⟨_, rfl⟩
  have hln9 : (ln : Int) ≤ 1000 := by omega
  have HOK := Lib.hid hok
  have HLN := Lib.hid hln
  have HNC := Lib.hid hnc
  have HLO := Lib.hid hlo
  have HNU := Lib.hid (fun (n : Nat) (hn : n ≤ 1000) u => refnum n u (by omega))
  rw [← hln]
  obtain ⟨D, hD⟩ : ∃ D, D = (p.cells (.slice sad ln sc)).toArray := ⟨_, rfl⟩
  rw [← hD]
  have HDE := Lib.hid hD
  clear hok hln hnc hlo hl hD
  go_enter Tryz.func66, Tryz.ntmps66
  go_upto_region 1 with fail
  have k1 := (Kept.refl w.heap.size w.heap.size w).alloc (Nat.le_refl _) (.cells D 75)
  have b1 := heap_new w (.cells D 75)
  generalize w.alloc (.cells D 75) = w1 at k1 b1 ⊢
  obtain ⟨lb, hlb⟩ : ∃ lb, lb = w.heap.size := ⟨_, rfl⟩
  rw [← hlb] at b1
  (try rw [← hlb])
  rw [HDE.out] at b1
  have K1 := Lib.hid k1
  have B1 := Lib.hid b1
  clear k1 b1 hlb
  have c0 := pr_cell0 B1.out
  have c65 := pr_loose HOK.out B1.out
  obtain ⟨st, hst⟩ : ∃ st, st = p.set := ⟨_, rfl⟩
  rw [← hst] at c0
  have HST := Lib.hid hst
  clear hst
  cases st with
  | false =>
    have HRE := Lib.hid (show str [0] = str (Tt.parentText p) by rw [Tt.parentText, ← HST.out, if_neg (by decide)])
    have HFL := Lib.hid (fun u => (refflag false u).mono (fun e w' h => show e = .returned (.string (str (Tt.parentText p))) ∧ w' = u from ⟨by rw [h.1, ← HRE.out]; rfl, h.2.symm⟩))
    obtain ⟨ss, hss⟩ : ∃ ss, ss = str (Tt.parentText p) := ⟨_, rfl⟩
    rw [← hss] at HFL
    have HSS := Lib.hid hss
    clear hss
    refine wp_region_lit ?_
    refine @BigFrame.wpList_want _ _ _ _ _ _ _ ?hw50023 ?_
    case hw50023 => kernel_rfl
    intro K hK
    go_simp
    refine hK _ _ ?_
    clear hK K
    refine @BigFrame.wpList_want _ _ _ _ _ _ _ ?hw50024 ?_
    case hw50024 => kernel_rfl
    intro K hK
    go_simp
    refine hK _ _ ?_
    clear hK K
    refine @BigFrame.wpList_want _ _ _ _ _ _ _ ?hw50022 ?_
    case hw50022 => kernel_rfl
    intro K hK
    go_simp
    go_at_call 108
    refine (HFL.out _).mono ?_
    rintro e w2 ⟨rfl, hw2⟩
    subst w2
    refine hK _ _ ?_
    clear hK K
    refine @BigFrame.wpList_want _ _ _ _ _ _ _ ?hw50025 ?_
    case hw50025 => kernel_rfl
    intro K hK
    go_simp
    refine hK _ _ ?_
    clear hK K
    go_upto_region 2 with fail
    refine wp_region_lit ?_
    refine @BigFrame.wpList_want _ _ _ _ _ _ _ ?hw50026 ?_
    case hw50026 => kernel_rfl
    intro K hK
    go_simp
    refine hK _ _ ?_
    clear hK K
    refine @BigFrame.wpList_want _ _ _ _ _ _ _ ?hw50027 ?_
    case hw50027 => kernel_rfl
    intro K hK
    go_simp
    refine hK _ _ ?_
    clear hK K
    clear c0 c65
    go_wp2
    go_ret
    exact ⟨by rw [HSS.out]; rfl, K1.out⟩
  | true =>
    obtain ⟨s1, hs1⟩ : ∃ s1, s1 = str [1] := ⟨_, rfl⟩
    obtain ⟨sp, hsp⟩ : ∃ sp, sp = str p.pub := ⟨_, rfl⟩
    obtain ⟨sa, hsa⟩ : ∃ sa, sa = str p.abv := ⟨_, rfl⟩
    obtain ⟨sn, hsn⟩ : ∃ sn, sn = str (Wm.enc ln) := ⟨_, rfl⟩
    obtain ⟨s0, hs0⟩ : ∃ s0, s0 = str ([1] ++ p.pub ++ p.abv ++ Wm.enc ln ++ Tt.looseText (p.loose.take 0)) := ⟨_, rfl⟩
    have HRE := Lib.hid (show s1 ++ sp ++ sa ++ sn = s0 by
      rw [hs0, hs1, hsp, hsa, hsn, str_append, str_append, str_append, List.take_zero]
      exact congrArg str (List.append_nil _).symm)
    have HS0 := Lib.hid hs0
    have HFL := Lib.hid (fun u => (refflag true u).mono (fun e w' h => show e = .returned (.string s1) ∧ w' = u from ⟨by rw [h.1, hs1]; rfl, h.2.symm⟩))
    have z1 : s1.size = 1 := by rw [hs1, str_size]; rfl
    have z2 : sn.size ≤ 8 := by rw [hsn, str_size]; exact Wm.enc_length_le ln
    have z3 : sp.size = 32 := by rw [hsp, str_size]; exact HOK.out.1
    have z5 : sa.size = 32 := by rw [hsa, str_size]; exact HOK.out.2
    have q1 : ¬ 9223372036854775807 < s1.size + sp.size := by omega
    have q2 : ¬ 9223372036854775807 < s1.size + sp.size + sa.size := by omega
    have q3 : ¬ 9223372036854775807 < s1.size + sp.size + sa.size + sn.size := by omega
    clear z1 z2 z3 z5
    have HTP := Lib.hid (fun u => text_calls8 p.pub HOK.out.1 u)
    have HTA := Lib.hid (fun u => text_calls8 p.abv HOK.out.2 u)
    have HNL := Lib.hid (fun u => HNU.out ln (by omega) u)
    rw [← hsp] at HTP
    rw [← hsa] at HTA
    rw [← hsn] at HNL
    have HLS := Lib.hid (fun (x : World) (k : Kept w1.heap.size w1.heap.size w1 x) => load_ints9 ((k.cell (p := ⟨lb, 65, none⟩) (lt_of_block B1.out) (Nat.ne_of_lt (lt_of_block B1.out))).trans c65))
    have HLP := Lib.hid (fun (x : World) (k : Kept w1.heap.size w1.heap.size w1 x) => run_loadVar_mid x lb 1 39 (bcells p.pub) _ (rangeAt_kept k (pr_pub HOK.out B1.out) (lt_of_block B1.out) (Nat.ne_of_lt (lt_of_block B1.out))) Tryz.underlying39 rfl (hashInfoT (by rw [bcells_length, HOK.out.1])))
    have HLA := Lib.hid (fun (x : World) (k : Kept w1.heap.size w1.heap.size w1 x) => run_loadVar_mid x lb 33 39 (bcells p.abv) _ (rangeAt_kept k (pr_abv HOK.out B1.out) (lt_of_block B1.out) (Nat.ne_of_lt (lt_of_block B1.out))) Tryz.underlying39 rfl (hashInfoT (by rw [bcells_length, HOK.out.2])))
    obtain ⟨DP, hDP⟩ : ∃ D, D = (bcells p.pub).toArray := ⟨_, rfl⟩
    obtain ⟨DA, hDA⟩ : ∃ D, D = (bcells p.abv).toArray := ⟨_, rfl⟩
    rw [← hDP] at HTP HLP
    rw [← hDA] at HTA HLA
    clear hs1 hsp hsa hsn hs0 hDP hDA
    refine wp_region_lit ?_
    refine @BigFrame.wpList_want _ _ _ _ _ _ _ ?hw50029 ?_
    case hw50029 => kernel_rfl
    intro K hK
    go_simp
    refine hK _ _ ?_
    clear hK K
    refine @BigFrame.wpList_want _ _ _ _ _ _ _ ?hw50030 ?_
    case hw50030 => kernel_rfl
    intro K hK
    go_simp
    refine hK _ _ ?_
    clear hK K
    refine @BigFrame.wpList_want _ _ _ _ _ _ _ ?hw50028 ?_
    case hw50028 => kernel_rfl
    intro K hK
    go_simp
    go_at_call 108
    refine (HFL.out _).mono ?_
    rintro e w2 ⟨rfl, hw2⟩
    subst w2
    refine hK _ _ ?_
    clear hK K
    refine @BigFrame.wpList_want _ _ _ _ _ _ _ ?hw50031 ?_
    case hw50031 => kernel_rfl
    intro K hK
    go_simp
    refine hK _ _ ?_
    clear hK K
    go_upto_region 2 with fail
    refine wp_region_lit ?_
    refine @BigFrame.wpList_want _ _ _ _ _ _ _ ?hw50032 ?_
    case hw50032 => kernel_rfl
    intro K hK
    go_simp
    refine hK _ _ ?_
    clear hK K
    refine @BigFrame.wpList_want _ _ _ _ _ _ _ ?hw50033 ?_
    case hw50033 => kernel_rfl
    intro K hK
    go_simp
    refine hK _ _ ?_
    clear hK K
    clear c0 c65
    go_upto_region 3 with fail
    have KD : Kept w1.heap.size w1.heap.size w1 w1.drew := (Kept.refl _ _ _).drew
    refine wp_region_noPanic ?_
    refine wp_region_held_drew (S := fun w' => Kept w1.heap.size w1.heap.size w1 w') (by kernel_rfl) ((Kept.refl _ _ _).drew) (fun hH => ?_)
    refine wpAnyH_take_ex (i := 0) 10 rfl rfl (by kernel_rfl) (by kernel_rfl) (by kernel_rfl) (fun _ _ _ _ h => h) (by kernel_rfl) hH ?_
    apply Exists.intro
    apply And.intro
    · intro w9 _
      go_simp
      first | done | rfl
    simp only [List.setIfInBounds_toArray, List.set_cons_zero, List.set_cons_succ]
    refine wpAnyH_take_ex (i := 1) 11 rfl rfl (by kernel_rfl) (by kernel_rfl) (by kernel_rfl) (fun _ _ _ _ h => h) (by kernel_rfl) hH ?_
    apply Exists.intro
    apply And.intro
    · intro w9 _
      go_simp
      first | done | rfl
    simp only [List.setIfInBounds_toArray, List.set_cons_zero, List.set_cons_succ]
    refine wpAnyH_take_at (i := 2) 12 (.agg DP) rfl rfl (by kernel_rfl) (by kernel_rfl) (by kernel_rfl) (fun _ _ _ h => h) (yieldsIf_load_known (by kernel_rfl) 39 _ rfl (lb) (1) rfl (.agg DP) (HLP.out)) hH ?_
    simp only [List.setIfInBounds_toArray, List.set_cons_zero, List.set_cons_succ]
    refine wpAnyH_take_ex (i := 5) 15 rfl rfl (by kernel_rfl) (by kernel_rfl) (by kernel_rfl) (fun _ _ _ _ h => h) (by kernel_rfl) hH ?_
    apply Exists.intro
    apply And.intro
    · intro w9 _
      go_simp
      first | done | rfl
    simp only [List.setIfInBounds_toArray, List.set_cons_zero, List.set_cons_succ]
    refine wpAnyH_take_at (i := 6) 16 (.agg DA) rfl rfl (by kernel_rfl) (by kernel_rfl) (by kernel_rfl) (fun _ _ _ h => h) (yieldsIf_load_known (by kernel_rfl) 39 _ rfl (lb) (33) rfl (.agg DA) (HLA.out)) hH ?_
    simp only [List.setIfInBounds_toArray, List.set_cons_zero, List.set_cons_succ]
    refine wpAnyH_take_ex (i := 9) 19 rfl rfl (by kernel_rfl) (by kernel_rfl) (by kernel_rfl) (fun _ _ _ _ h => h) (by kernel_rfl) hH ?_
    apply Exists.intro
    apply And.intro
    · intro w9 _
      go_simp
      first | done | rfl
    simp only [List.setIfInBounds_toArray, List.set_cons_zero, List.set_cons_succ]
    refine wpAnyH_take_at (i := 10) 20 (.slice sad ln sc) rfl rfl (by kernel_rfl) (by kernel_rfl) (by kernel_rfl) (fun _ _ _ h => h) (yieldsIf_load_known (by kernel_rfl) 35 _ rfl (lb) (65) rfl (.slice sad ln sc) (HLS.out)) hH ?_
    simp only [List.setIfInBounds_toArray, List.set_cons_zero, List.set_cons_succ]
    refine wpAnyH_take_ex (i := 11) 21 rfl rfl (by kernel_rfl) (by kernel_rfl) (by kernel_rfl) (fun _ _ _ _ h => h) (by kernel_rfl) hH ?_
    apply Exists.intro
    apply And.intro
    · intro w9 _
      go_simp
      first | done | rfl
    simp only [List.setIfInBounds_toArray, List.set_cons_zero, List.set_cons_succ]
    refine wpAnyH_ready (rs := [3]) (by kernel_rfl) (by simp) ?_
    refine AllReadyH.cons rfl (fun K hK => ?_) AllReadyH.nil
    rw [if_pos (by rfl)]
    go_simp
    go_wp2_with (go_at_call 69; refine (HTP.out _).mono ?_; rintro e w4 ⟨rfl, kw4⟩)
    have K4 : Kept w1.heap.size w1.heap.size w1 w4 := KD.next1 kw4
    refine hK.out _ _ (K4) (fun hH => ?_)
    clear hK K
    refine wpAnyH_take_ex (i := 4) 14 rfl rfl (by kernel_rfl) (by kernel_rfl) (by kernel_rfl) (fun _ _ _ _ h => h) (by kernel_rfl) hH ?_
    apply Exists.intro
    apply And.intro
    · intro w9 _
      go_simp
      first | done | rfl
    simp only [List.setIfInBounds_toArray, List.set_cons_zero, List.set_cons_succ]
    refine wpAnyH_ready (rs := [7]) (by kernel_rfl) (by simp) ?_
    refine AllReadyH.cons rfl (fun K hK => ?_) AllReadyH.nil
    rw [if_pos (by rfl)]
    go_simp
    go_wp2_with (go_at_call 69; refine (HTA.out _).mono ?_; rintro e w5 ⟨rfl, kw5⟩)
    have K5 : Kept w1.heap.size w1.heap.size w1 w5 := K4.next1 kw5
    refine hK.out _ _ (K5) (fun hH => ?_)
    clear hK K
    refine wpAnyH_take_ex (i := 8) 18 rfl rfl (by kernel_rfl) (by kernel_rfl) (by kernel_rfl) (fun _ _ _ _ h => h) (by kernel_rfl) hH ?_
    apply Exists.intro
    apply And.intro
    · intro w9 _
      go_simp
      first | done | rfl
    simp only [List.setIfInBounds_toArray, List.set_cons_zero, List.set_cons_succ]
    refine wpAnyH_ready (rs := [12]) (by kernel_rfl) (by simp) ?_
    refine AllReadyH.cons rfl (fun K hK => ?_) AllReadyH.nil
    rw [if_pos (by rfl)]
    go_simp
    go_wp2_with (go_at_call 64; refine (HNL.out _).mono ?_; rintro e w6 ⟨rfl, kw6⟩)
    have K6 : Kept w1.heap.size w1.heap.size w1 w6 := K5.next1 kw6
    refine hK.out _ _ (K6) (fun hH => ?_)
    clear hK K
    refine wpAnyH_take_ex (i := 13) 23 rfl rfl (by kernel_rfl) (by kernel_rfl) (by kernel_rfl) (fun _ _ _ _ h => h) (by kernel_rfl) hH ?_
    apply Exists.intro
    apply And.intro
    · intro w9 _
      go_simp
      first | done | rfl
    simp only [List.setIfInBounds_toArray, List.set_cons_zero, List.set_cons_succ]
    refine wpAnyH_take_ex (i := 14) 3 rfl rfl (by kernel_rfl) (by kernel_rfl) (by kernel_rfl) (fun _ _ _ _ h => h) (by kernel_rfl) hH ?_
    apply Exists.intro
    apply And.intro
    · intro w9 _
      go_simp
      first | done | rfl
    simp only [List.setIfInBounds_toArray, List.set_cons_zero, List.set_cons_succ]
    refine wpAnyH_done (by kernel_rfl) ?_ _
    refine NoPanic.normal ?_
    rw [HRE.out]
    have KX := Lib.hid K6
    clear hH KD K4 K5 K6 q1 q2 q3
    go_wp2
    go_loopw [3, 4] (fun s3 s4 wr => ∃ i : Nat, s3 = .string (str ([1] ++ p.pub ++ p.abv ++ Wm.enc ln ++ Tt.looseText (p.loose.take i))) ∧ s4 = .int .i64 (i : Int) ∧ Hid (i ≤ ln) ∧ Hid (Kept w1.heap.size w1.heap.size w1 wr)) (fun _ s4 _ => ln - (RowKit.intOf s4).toNat)
    case atStart => exact ⟨0, by rw [HS0.out], rfl, Lib.hid (Nat.zero_le _), KX⟩
    case round =>
      clear KX HRE HS0
      obtain ⟨i, rfl, rfl, hi, HK⟩ := hrel
      have c65 := ((HK.out.cell (p := ⟨lb, 65, none⟩) (lt_of_block B1.out) (Nat.ne_of_lt (lt_of_block B1.out))).trans (pr_loose HOK.out B1.out))
      by_cases hlt : i < ln
      · have hiL : i < p.loose.length := by rw [← HLN.out]; exact hlt
        have hlti : (i : Int) < (ln : Int) := by omega
        have hi0 : ¬ (i : Int) < 0 := by omega
        obtain ⟨rfl, hg, hcell⟩ := HNC.out i hiL
        obtain ⟨y, hy⟩ : ∃ y, y = p.loose[i] := ⟨_, rfl⟩
        obtain ⟨hy0, hy1⟩ := HLO.out _ (List.getElem_mem hiL)
        rw [← hy] at hcell hy0 hy1
        obtain ⟨yn, hyn⟩ : ∃ yn : Nat, y = (yn : Int) := ⟨y.toNat, by omega⟩
        have HTK := Lib.hid (show str ([1] ++ p.pub ++ p.abv ++ Wm.enc ln ++ Tt.looseText (p.loose.take i)) ++ str (Wm.enc yn) = str ([1] ++ p.pub ++ p.abv ++ Wm.enc ln ++ Tt.looseText (p.loose.take (i + 1))) by
          rw [List.take_succ_eq_append_getElem hiL, Tt.looseText_snoc, ← hy, hyn, Int.toNat_natCast, str_append, ← List.append_assoc])
        rw [hyn] at hcell
        have c0 := (HK.out.cell (p := ⟨ng, no + i, none⟩) (Nat.lt_of_lt_of_le hg K1.out.size) (Nat.ne_of_lt (Nat.lt_of_lt_of_le hg K1.out.size))).trans ((K1.out.cell (p := ⟨ng, no + i, none⟩) hg (Nat.ne_of_lt hg)).trans hcell)
        have HNY := Lib.hid (fun u => HNU.out yn (by omega) u)
        obtain ⟨sy, hsy⟩ : ∃ sy, sy = str (Wm.enc yn) := ⟨_, rfl⟩
        rw [← hsy] at HNY HTK
        obtain ⟨sx, hsx⟩ : ∃ sx, sx = str ([1] ++ p.pub ++ p.abv ++ Wm.enc ln ++ Tt.looseText (p.loose.take i)) := ⟨_, rfl⟩
        rw [← hsx] at HTK ⊢
        have z1 : sx.size ≤ 9000 := by
          have h1 := Tt.looseText_length (p.loose.take i)
          have h2 := Wm.enc_length_le ln
          rw [hsx, str_size]
          simp only [List.length_append, List.length_singleton, HOK.out.1, HOK.out.2]
          rw [List.length_take] at h1
          omega
        have z2 : sy.size ≤ 8 := by rw [hsy, str_size]; exact Wm.enc_length_le yn
        have q1 : ¬ 9223372036854775807 < sx.size + sy.size := by omega
        have HLT := Lib.hid hlt
        clear hlt hi hiL hg hcell hy hy0 hy1 hyn hsy hsx
        go_upto_region 7 with fail
        refine wp_region_lit ?_
        refine @BigFrame.wpList_want _ _ _ _ _ _ _ ?hw50035 ?_
        case hw50035 => kernel_rfl
        intro K hK
        go_simp
        refine hK _ _ ?_
        clear hK K
        refine @BigFrame.wpList_want _ _ _ _ _ _ _ ?hw50036 ?_
        case hw50036 => kernel_rfl
        intro K hK
        go_simp
        refine hK _ _ ?_
        clear hK K
        refine @BigFrame.wpList_want _ _ _ _ _ _ _ ?hw50037 ?_
        case hw50037 => kernel_rfl
        intro K hK
        go_simp
        refine hK _ _ ?_
        clear hK K
        refine @BigFrame.wpList_want _ _ _ _ _ _ _ ?hw50038 ?_
        case hw50038 => kernel_rfl
        intro K hK
        go_simp
        refine hK _ _ ?_
        clear hK K
        refine @BigFrame.wpList_want _ _ _ _ _ _ _ ?hw50039 ?_
        case hw50039 => kernel_rfl
        intro K hK
        go_simp
        refine hK _ _ ?_
        clear hK K
        refine @BigFrame.wpList_want _ _ _ _ _ _ _ ?hw50040 ?_
        case hw50040 => kernel_rfl
        intro K hK
        go_simp
        refine hK _ _ ?_
        clear hK K
        refine @BigFrame.wpList_want _ _ _ _ _ _ _ ?hw50034 ?_
        case hw50034 => kernel_rfl
        intro K hK
        go_simp
        go_at_call 64
        refine (HNY.out _).mono ?_
        rintro e w8 ⟨rfl, k8⟩
        have K8 := Lib.hid (HK.out.next1 k8)
        clear k8
        refine hK _ _ ?_
        clear hK K
        refine @BigFrame.wpList_want _ _ _ _ _ _ _ ?hw50041 ?_
        case hw50041 => kernel_rfl
        intro K hK
        go_simp
        refine hK _ _ ?_
        clear hK K
        refine @BigFrame.wpList_want _ _ _ _ _ _ _ ?hw50042 ?_
        case hw50042 => kernel_rfl
        intro K hK
        go_simp
        refine hK _ _ ?_
        clear hK K
        rw [HTK.out]
        clear c0 c65 q1 z1 z2
        go_wp2
        go_roundw
        case rel => exact ⟨i + 1, rfl, by simp, Lib.hid HLT.out, K8⟩
        case measure => have := HLT.out; simp [RowKit.intOf]; omega
      · have hnl : ¬ (i : Int) < (ln : Int) := by omega
        have HE := Lib.hid (show str ([1] ++ p.pub ++ p.abv ++ Wm.enc ln ++ Tt.looseText (p.loose.take i)) = str (Tt.parentText p) by
          have hie : i = p.loose.length := by have := hi.out; have := HLN.out; omega
          rw [Tt.parentText, ← HST.out, if_pos rfl, hie, List.take_length, HLN.out])
        rw [HE.out]
        obtain ⟨ss, hss⟩ : ∃ ss, ss = str (Tt.parentText p) := ⟨_, rfl⟩
        rw [← hss]
        have HSS := Lib.hid hss
        clear hlt hi hss HE
        go_wp2
        go_ret
        exact ⟨by rw [← HSS.out]; rfl, K1.out.next1 HK.out⟩

end Go.Proofs.YtmmgekchfgmcdaaGreatDoor
