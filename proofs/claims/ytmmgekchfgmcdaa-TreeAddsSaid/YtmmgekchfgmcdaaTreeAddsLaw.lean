/-
  The law TreeAdds.
-/
import Derived.Test.YtmmgekchfgmcdaaTreeAddJoin
import Derived.Test.YtmmgekchfgmcdaaTreeSame
import Derived.Test.YtmmgekchfgmcdaaTreeFew

namespace Go.Proofs.Ytmmgekchfgmcdaa
open Go.RowKit Go.Lib

theorem few_sizesA {L : List Lf} {P : List Pr} (h : Tt.few L P = true) : L.length ≤ 999 ∧ P.length ≤ 999 ∧ ∀ p ∈ P, p.loose.length ≤ 1000 := by
  simp only [Tt.few, Tt.fewp, Bool.and_eq_true, decide_eq_true_eq, List.all_eq_true] at h
  exact ⟨by omega, by omega, fun p hp => Nat.le_trans (h.2.2 p hp) (by decide)⟩
set_option maxRecDepth 100000 in
set_option maxHeartbeats 6400000 in
theorem treeadds_walk (lv pv : Value) (L : List Lf) (P : List Pr) (l : Lf) (hlo : l.Ok) (w : World) (hL : Lvs w lv L) (hP : Pts w pv P) :
    Calls Try.prog 5 #[.agg #[lv, pv], .agg l.cells.toArray] w fun e w' => e = .returned (.bool true) ∧ Kept w.heap.size w.heap.size w w' := by
  have ka := (Kept.refl w.heap.size w.heap.size w).alloc (Nat.le_refl _) (.cells #[lv, pv] 27)
  have ta := heap_new w (.cells #[lv, pv] 27)
  have sa : (w.alloc (.cells #[lv, pv] 27)).heap.size = w.heap.size + 1 := by simp
  have hL1 := hL.kept ka
  have hP1 := hP.kept ka
  obtain ⟨lad, lc, rfl⟩ := hL.shape
  obtain ⟨pad, pc, rfl⟩ := hP.shape
  obtain ⟨fw, hfw⟩ : ∃ fw, fw = Tt.few L P := ⟨_, rfl⟩
  obtain ⟨rt, hrt⟩ : ∃ rt, rt = Tt.right L P := ⟨_, rfl⟩
  have hsz := fun h : fw = true => few_sizesA (L := L) (P := P) (hfw ▸ h)
  have hr := fun h : rt = true => (show Tt.right L P = true from hrt ▸ h)
  obtain ⟨D, hD⟩ : ∃ D, D = l.cells.toArray := ⟨_, rfl⟩
  have HINF := Lib.hid (show (Try.prog.info? 36).map (·.size) = some D.size by rw [hD]; exact leafInfo (Lf.size hlo))
  have HDE := Lib.hid hD
  obtain ⟨ln, hln⟩ : ∃ ln, ln = L.length := ⟨_, rfl⟩
  obtain ⟨pn, hpn⟩ : ∃ pn, pn = P.length := ⟨_, rfl⟩
  rw [← hln, ← hpn] at ka ta sa hL1 hP1 ⊢
  rw [← hD]
  clear hln hpn hD
  go_enter Try.func5, Try.ntmps5
  go_upto_region 1 with fail
  generalize w.alloc (.cells #[.slice lad ln lc, .slice pad pn pc] 27) = wa at ka ta sa hL1 hP1 ⊢
  have kb := (Kept.refl wa.heap.size wa.heap.size wa).alloc (Nat.le_refl _) (.cells D 36)
  have eb := heap_new wa (.cells D 36)
  have tb0 := (kb.block _ (lt_of_block ta) (Nat.ne_of_lt (lt_of_block ta))).trans ta
  have hL2 := hL1.kept kb
  have hP2 := hP1.kept kb
  generalize wa.alloc (.cells D 36) = w1 at kb eb tb0 hL2 hP2 ⊢
  rw [sa] at eb
  (try rw [sa])
  obtain ⟨tb, htb⟩ : ∃ tb, tb = w.heap.size := ⟨_, rfl⟩
  obtain ⟨lb, hlb⟩ : ∃ lb, lb = w.heap.size + 1 := ⟨_, rfl⟩
  rw [← hlb] at eb
  (try rw [← hlb])
  rw [← htb] at tb0
  (try rw [← htb])
  have K1 := Lib.hid (ka.next1 kb)
  have T1 := Lib.hid tb0
  have E1 := Lib.hid eb
  have HLE := Lib.hid (fun (x : World) (k : Kept w1.heap.size w1.heap.size w1 x) => run_loadVar_row x lb 36 36 _ (0, 0) _ ((k.block lb (lt_of_block E1.out) (Nat.ne_of_lt (lt_of_block E1.out))).trans E1.out) Try.underlying36 rfl HINF.out)
  have HLV := Lib.hid hL2
  have HPV := Lib.hid hP2
  clear hL hP hL1 hP1 hL2 hP2 ka ta sa kb eb tb0 htb hlb
  have HLT := Lib.hid (fun (x : World) (k : Kept w1.heap.size w1.heap.size w1 x) => run_loadVar_row x tb 27 27 _ (0, 0) _ ((k.block tb (lt_of_block T1.out) (Nat.ne_of_lt (lt_of_block T1.out))).trans T1.out) Try.underlying27 rfl treeInfo)
  have HFW := Lib.hid (fun (x : World) (k : Kept w1.heap.size w1.heap.size w1 x) => few_calls8 _ _ L P x (HLV.out.kept k) (HPV.out.kept k))
  rw [← hfw] at HFW
  have HAW := Lib.hid (fun x => awake_calls8 x)
  have HRF := Lib.hid (fun (hf : fw = true) (x : World) (k : Kept w1.heap.size w1.heap.size w1 x) => refright_calls8 _ _ L P x (HLV.out.kept k) (HPV.out.kept k) (hsz hf).2.2)
  rw [← hrt] at HRF
  have HAC := Lib.hid (fun (hf : fw = true) (h : rt = true) (u : World) (k : Kept w1.heap.size w1.heap.size w1 u) => add_any _ _ L P l hlo u (HLV.out.kept k) (HPV.out.kept k) (hsz hf).2.2 (hr h))
  have HDC := Lib.hid (fun (hf : fw = true) (h : rt = true) (u : World) (k : Kept w1.heap.size w1.heap.size w1 u) => refadd_any _ _ L P l hlo u (HLV.out.kept k) (HPV.out.kept k) (hsz hf).2.2 (hr h))
  have HPL := Lib.hid (fun h : rt = true => Tt.putP_loose (hr h) l.name)
  have HNL := Lib.hid (fun hf : fw = true => show (Tt.putL L l).length ≤ 1000 from Nat.le_trans (Tt.putL_length L l) (Nat.succ_le_succ (hsz hf).1))
  have HNP := Lib.hid (fun hf : fw = true => show (Tt.putP L P l.name).length ≤ 1000 from Nat.le_trans (Tt.putP_length L P l.name) (Nat.succ_le_succ (hsz hf).2.1))
  rw [← HDE.out] at HAC HDC
  obtain ⟨er, her⟩ : ∃ er, er = Tt.addErr L l.name := ⟨_, rfl⟩
  obtain ⟨pl, hpl⟩ : ∃ pl, pl = Tt.addAt L l.name := ⟨_, rfl⟩
  obtain ⟨L9, hL9⟩ : ∃ L9, L9 = Tt.putL L l := ⟨_, rfl⟩
  obtain ⟨P9, hP9⟩ : ∃ P9, P9 = Tt.putP L P l.name := ⟨_, rfl⟩
  rw [← her, ← hpl, ← hL9, ← hP9] at HAC HDC
  rw [← hP9] at HPL HNP
  rw [← hL9] at HNL
  clear hfw hrt hsz hr her hpl hL9 hP9 HLV HPV hlo
  cases fw with
  | false =>
    refine wp_region_lit ?_
    refine @wpList_load_known _ _ _ _ _ _ _ ?hw49002 27 (.tmp 2) rfl (tb) (0) rfl (.agg #[.slice lad ln lc, .slice pad pn pc]) (HLT.out w1 (Kept.refl w1.heap.size w1.heap.size w1)) ?_
    case hw49002 => kernel_rfl
    simp only [Act.put, List.setIfInBounds_toArray, List.set_cons_zero, List.set_cons_succ]
    refine @BigFrame.wpList_want _ _ _ _ _ _ _ ?hw49001 ?_
    case hw49001 => kernel_rfl
    intro K hK
    go_simp
    go_at_call 14
    refine (HFW.out w1 (Kept.refl w1.heap.size w1.heap.size w1)).mono ?_
    rintro e w2 ⟨rfl, k2⟩
    have K2 := Lib.hid k2
    clear k2
    refine hK _ _ ?_
    clear hK K
    refine @BigFrame.wpList_want _ _ _ _ _ _ _ ?hw49003 ?_
    case hw49003 => kernel_rfl
    intro K hK
    go_simp
    refine hK _ _ ?_
    clear hK K
    refine @BigFrame.wpList_want _ _ _ _ _ _ _ ?hw49004 ?_
    case hw49004 => kernel_rfl
    intro K hK
    go_simp
    refine hK _ _ ?_
    clear hK K
    refine @wpList_skip _ _ _ _ _ _ _ ?hw49005 ?_
    case hw49005 => kernel_rfl
    simp only [Act.put, List.setIfInBounds_toArray, List.set_cons_zero, List.set_cons_succ]
    refine @wpList_skip _ _ _ _ _ _ _ ?hw49006 ?_
    case hw49006 => kernel_rfl
    simp only [Act.put, List.setIfInBounds_toArray, List.set_cons_zero, List.set_cons_succ]
    refine @wpList_skip _ _ _ _ _ _ _ ?hw49007 ?_
    case hw49007 => kernel_rfl
    simp only [Act.put, List.setIfInBounds_toArray, List.set_cons_zero, List.set_cons_succ]
    refine @BigFrame.wpList_want _ _ _ _ _ _ _ ?hw49008 ?_
    case hw49008 => kernel_rfl
    intro K hK
    go_simp
    refine hK _ _ ?_
    clear hK K
    go_upto_region 2 with fail
    refine wp_region_lit ?_
    refine @BigFrame.wpList_want _ _ _ _ _ _ _ ?hw49009 ?_
    case hw49009 => kernel_rfl
    intro K hK
    go_simp
    go_at_call 9
    refine (HAW.out _).mono ?_
    rintro e w3 ⟨rfl, k3⟩
    have K3 := Lib.hid (K2.out.next1 k3)
    clear k3
    refine hK _ _ ?_
    clear hK K
    refine @BigFrame.wpList_want _ _ _ _ _ _ _ ?hw49010 ?_
    case hw49010 => kernel_rfl
    intro K hK
    go_simp
    refine hK _ _ ?_
    clear hK K
    go_wp2
    go_ret
    exact ⟨rfl, K1.out.next1 K3.out⟩
  | true =>
    have HR2 := Lib.hid (HRF.out rfl)
    clear HRF
    cases rt with
    | false =>
      refine wp_region_lit ?_
      refine @wpList_load_known _ _ _ _ _ _ _ ?hw49013 27 (.tmp 2) rfl (tb) (0) rfl (.agg #[.slice lad ln lc, .slice pad pn pc]) (HLT.out w1 (Kept.refl w1.heap.size w1.heap.size w1)) ?_
      case hw49013 => kernel_rfl
      simp only [Act.put, List.setIfInBounds_toArray, List.set_cons_zero, List.set_cons_succ]
      refine @BigFrame.wpList_want _ _ _ _ _ _ _ ?hw49011 ?_
      case hw49011 => kernel_rfl
      intro K hK
      go_simp
      go_at_call 14
      refine (HFW.out w1 (Kept.refl w1.heap.size w1.heap.size w1)).mono ?_
      rintro e w2 ⟨rfl, k2⟩
      have K2 := Lib.hid k2
      clear k2
      refine hK _ _ ?_
      clear hK K
      refine @BigFrame.wpList_want _ _ _ _ _ _ _ ?hw49014 ?_
      case hw49014 => kernel_rfl
      intro K hK
      go_simp
      refine hK _ _ ?_
      clear hK K
      refine @BigFrame.wpList_want _ _ _ _ _ _ _ ?hw49015 ?_
      case hw49015 => kernel_rfl
      intro K hK
      go_simp
      refine hK _ _ ?_
      clear hK K
      refine @wpList_load_known _ _ _ _ _ _ _ ?hw49016 27 (.tmp 2) rfl (tb) (0) rfl (.agg #[.slice lad ln lc, .slice pad pn pc]) (HLT.out w2 K2.out) ?_
      case hw49016 => kernel_rfl
      simp only [Act.put, List.setIfInBounds_toArray, List.set_cons_zero, List.set_cons_succ]
      refine @BigFrame.wpList_want _ _ _ _ _ _ _ ?hw49012 ?_
      case hw49012 => kernel_rfl
      intro K hK
      go_simp
      go_at_call 16
      refine (HR2.out w2 K2.out).mono ?_
      rintro e w3 ⟨rfl, k3⟩
      have K3 := Lib.hid (K2.out.next1 k3)
      clear k3
      refine hK _ _ ?_
      clear hK K
      refine @BigFrame.wpList_want _ _ _ _ _ _ _ ?hw49017 ?_
      case hw49017 => kernel_rfl
      intro K hK
      go_simp
      refine hK _ _ ?_
      clear hK K
      refine @BigFrame.wpList_want _ _ _ _ _ _ _ ?hw49018 ?_
      case hw49018 => kernel_rfl
      intro K hK
      go_simp
      refine hK _ _ ?_
      clear hK K
      go_upto_region 2 with fail
      refine wp_region_lit ?_
      refine @BigFrame.wpList_want _ _ _ _ _ _ _ ?hw49019 ?_
      case hw49019 => kernel_rfl
      intro K hK
      go_simp
      go_at_call 9
      refine (HAW.out _).mono ?_
      rintro e w4 ⟨rfl, k4⟩
      have K4 := Lib.hid (K3.out.next1 k4)
      clear k4
      refine hK _ _ ?_
      clear hK K
      refine @BigFrame.wpList_want _ _ _ _ _ _ _ ?hw49020 ?_
      case hw49020 => kernel_rfl
      intro K hK
      go_simp
      refine hK _ _ ?_
      clear hK K
      go_wp2
      go_ret
      exact ⟨rfl, K1.out.next1 K4.out⟩
    | true =>
      have HA2 := Lib.hid (HAC.out rfl rfl)
      have HD2 := Lib.hid (HDC.out rfl rfl)
      have HPL2 := Lib.hid (HPL.out rfl)
      have HNL2 := Lib.hid (HNL.out rfl)
      have HNP2 := Lib.hid (HNP.out rfl)
      clear HAC HDC HPL HNL HNP
      refine wp_region_lit ?_
      refine @wpList_load_known _ _ _ _ _ _ _ ?hw49023 27 (.tmp 2) rfl (tb) (0) rfl (.agg #[.slice lad ln lc, .slice pad pn pc]) (HLT.out w1 (Kept.refl w1.heap.size w1.heap.size w1)) ?_
      case hw49023 => kernel_rfl
      simp only [Act.put, List.setIfInBounds_toArray, List.set_cons_zero, List.set_cons_succ]
      refine @BigFrame.wpList_want _ _ _ _ _ _ _ ?hw49021 ?_
      case hw49021 => kernel_rfl
      intro K hK
      go_simp
      go_at_call 14
      refine (HFW.out w1 (Kept.refl w1.heap.size w1.heap.size w1)).mono ?_
      rintro e w2 ⟨rfl, k2⟩
      have K2 := Lib.hid k2
      clear k2
      refine hK _ _ ?_
      clear hK K
      refine @BigFrame.wpList_want _ _ _ _ _ _ _ ?hw49024 ?_
      case hw49024 => kernel_rfl
      intro K hK
      go_simp
      refine hK _ _ ?_
      clear hK K
      refine @BigFrame.wpList_want _ _ _ _ _ _ _ ?hw49025 ?_
      case hw49025 => kernel_rfl
      intro K hK
      go_simp
      refine hK _ _ ?_
      clear hK K
      refine @wpList_load_known _ _ _ _ _ _ _ ?hw49026 27 (.tmp 2) rfl (tb) (0) rfl (.agg #[.slice lad ln lc, .slice pad pn pc]) (HLT.out w2 K2.out) ?_
      case hw49026 => kernel_rfl
      simp only [Act.put, List.setIfInBounds_toArray, List.set_cons_zero, List.set_cons_succ]
      refine @BigFrame.wpList_want _ _ _ _ _ _ _ ?hw49022 ?_
      case hw49022 => kernel_rfl
      intro K hK
      go_simp
      go_at_call 16
      refine (HR2.out w2 K2.out).mono ?_
      rintro e w3 ⟨rfl, k3⟩
      have K3 := Lib.hid (K2.out.next1 k3)
      clear k3
      refine hK _ _ ?_
      clear hK K
      refine @BigFrame.wpList_want _ _ _ _ _ _ _ ?hw49027 ?_
      case hw49027 => kernel_rfl
      intro K hK
      go_simp
      refine hK _ _ ?_
      clear hK K
      refine @BigFrame.wpList_want _ _ _ _ _ _ _ ?hw49028 ?_
      case hw49028 => kernel_rfl
      intro K hK
      go_simp
      refine hK _ _ ?_
      clear hK K
      go_upto_region 3 with fail
      refine wp_region_lit ?_
      refine @wpList_load_known _ _ _ _ _ _ _ ?hw49030 27 (.tmp 2) rfl (tb) (0) rfl (.agg #[.slice lad ln lc, .slice pad pn pc]) (HLT.out w3 K3.out) ?_
      case hw49030 => kernel_rfl
      simp only [Act.put, List.setIfInBounds_toArray, List.set_cons_zero, List.set_cons_succ]
      refine @wpList_load_known _ _ _ _ _ _ _ ?hw49031 36 (.tmp 3) rfl (lb) (0) rfl (.agg D) (HLE.out w3 K3.out) ?_
      case hw49031 => kernel_rfl
      simp only [Act.put, List.setIfInBounds_toArray, List.set_cons_zero, List.set_cons_succ]
      refine @BigFrame.wpList_want _ _ _ _ _ _ _ ?hw49029 ?_
      case hw49029 => kernel_rfl
      intro K hK
      go_simp
      go_at_call 17
      refine (HA2.out w3 K3.out).mono ?_
      rintro e w4 ⟨lv4, pv4, rfl, k4, SL4, m4⟩
      obtain ⟨lad4, lc4, rfl⟩ := m4.lvs.shape
      obtain ⟨pad4, pc4, rfl⟩ := m4.pts.shape
      obtain ⟨n4, hn4⟩ : ∃ n4, n4 = L9.length := ⟨_, rfl⟩
      obtain ⟨q4, hq4⟩ : ∃ q4, q4 = P9.length := ⟨_, rfl⟩
      rw [← hn4, ← hq4] at m4 ⊢
      clear hn4 hq4
      have K4 := Lib.hid (K3.out.next1 k4)
      clear k4
      refine hK _ _ ?_
      clear hK K
      refine @BigFrame.wpList_want _ _ _ _ _ _ _ ?hw49032 ?_
      case hw49032 => kernel_rfl
      intro K hK
      go_simp
      refine hK _ _ ?_
      clear hK K
      refine @BigFrame.wpList_want _ _ _ _ _ _ _ ?hw49033 ?_
      case hw49033 => kernel_rfl
      intro K hK
      go_simp
      refine hK _ _ ?_
      clear hK K
      refine @BigFrame.wpList_want _ _ _ _ _ _ _ ?hw49034 ?_
      case hw49034 => kernel_rfl
      intro K hK
      go_simp
      refine hK _ _ ?_
      clear hK K
      refine @BigFrame.wpList_want _ _ _ _ _ _ _ ?hw49035 ?_
      case hw49035 => kernel_rfl
      intro K hK
      go_simp
      refine hK _ _ ?_
      clear hK K
      refine @wpL_alloc _ _ _ _ _ _ _ _ ?hw49036 27 rfl _ (alloc_tree _) ?_
      case hw49036 => kernel_rfl
      simp only [Act.put, List.setIfInBounds_toArray, List.set_cons_zero, List.set_cons_succ]
      refine wpList_store_row rfl 27 _ _ rfl (w4.heap.size) #[.slice lad4 n4 lc4, .slice pad4 q4 pc4] rfl rfl 27 #[.slice none 0 0, .slice none 0 0] (heap_new _ _) (treeInfo) (rfl) (tree_all _ _ _ _ _ _) ?_
      simp only [Act.put]
      rw [World.setRow_alloc_new]
      refine @BigFrame.wpList_want _ _ _ _ _ _ _ ?hw49037 ?_
      case hw49037 => kernel_rfl
      intro K hK
      go_simp
      refine hK _ _ ?_
      clear hK K
      refine @BigFrame.wpList_want _ _ _ _ _ _ _ ?hw49038 ?_
      case hw49038 => kernel_rfl
      intro K hK
      go_simp
      refine hK _ _ ?_
      clear hK K
      have kk5 : Kept w4.heap.size w4.heap.size w4 (w4.alloc (.cells #[.slice lad4 n4 lc4, .slice pad4 q4 pc4] 27)) := (Kept.refl _ _ _).alloc (Nat.le_refl _) _
      have K5 := Lib.hid (K4.out.next1 kk5)
      have M5 := Lib.hid (m4.kept kk5)
      have X5 := Lib.hid (heap_new w4 (.cells #[.slice lad4 n4 lc4, .slice pad4 q4 pc4] 27))
      generalize w4.alloc (.cells #[.slice lad4 n4 lc4, .slice pad4 q4 pc4] 27) = w5 at K5 M5 X5 ⊢
      obtain ⟨b5, hb5⟩ : ∃ b5, b5 = w4.heap.size := ⟨_, rfl⟩
      rw [← hb5] at X5
      (try rw [← hb5])
      clear hb5 m4 kk5
      go_upto_region 4 with fail
      refine wp_region_lit ?_
      refine @wpList_load_known _ _ _ _ _ _ _ ?hw49040 27 (.tmp 2) rfl (tb) (0) rfl (.agg #[.slice lad ln lc, .slice pad pn pc]) (HLT.out w5 K5.out) ?_
      case hw49040 => kernel_rfl
      simp only [Act.put, List.setIfInBounds_toArray, List.set_cons_zero, List.set_cons_succ]
      refine @wpList_load_known _ _ _ _ _ _ _ ?hw49041 36 (.tmp 3) rfl (lb) (0) rfl (.agg D) (HLE.out w5 K5.out) ?_
      case hw49041 => kernel_rfl
      simp only [Act.put, List.setIfInBounds_toArray, List.set_cons_zero, List.set_cons_succ]
      refine @BigFrame.wpList_want _ _ _ _ _ _ _ ?hw49039 ?_
      case hw49039 => kernel_rfl
      intro K hK
      go_simp
      go_at_call 18
      refine (HD2.out w5 K5.out).mono ?_
      rintro e w6 ⟨lv6, pv6, rfl, k6, SL6, m6⟩
      obtain ⟨lad6, lc6, rfl⟩ := m6.lvs.shape
      obtain ⟨pad6, pc6, rfl⟩ := m6.pts.shape
      obtain ⟨n6, hn6⟩ : ∃ n6, n6 = L9.length := ⟨_, rfl⟩
      obtain ⟨q6, hq6⟩ : ∃ q6, q6 = P9.length := ⟨_, rfl⟩
      rw [← hn6, ← hq6] at m6 ⊢
      clear hn6 hq6
      have K6 := Lib.hid (K5.out.next1 k6)
      have N6 := Lib.hid (M5.out.kept k6)
      have X6 := Lib.hid ((k6.block b5 (lt_of_block X5.out) (Nat.ne_of_lt (lt_of_block X5.out))).trans X5.out)
      clear k6
      refine hK _ _ ?_
      clear hK K
      refine @BigFrame.wpList_want _ _ _ _ _ _ _ ?hw49042 ?_
      case hw49042 => kernel_rfl
      intro K hK
      go_simp
      refine hK _ _ ?_
      clear hK K
      refine @BigFrame.wpList_want _ _ _ _ _ _ _ ?hw49043 ?_
      case hw49043 => kernel_rfl
      intro K hK
      go_simp
      refine hK _ _ ?_
      clear hK K
      refine @BigFrame.wpList_want _ _ _ _ _ _ _ ?hw49044 ?_
      case hw49044 => kernel_rfl
      intro K hK
      go_simp
      refine hK _ _ ?_
      clear hK K
      refine @BigFrame.wpList_want _ _ _ _ _ _ _ ?hw49045 ?_
      case hw49045 => kernel_rfl
      intro K hK
      go_simp
      refine hK _ _ ?_
      clear hK K
      refine @wpL_alloc _ _ _ _ _ _ _ _ ?hw49046 27 rfl _ (alloc_tree _) ?_
      case hw49046 => kernel_rfl
      simp only [Act.put, List.setIfInBounds_toArray, List.set_cons_zero, List.set_cons_succ]
      refine wpList_store_row rfl 27 _ _ rfl (w6.heap.size) #[.slice lad6 n6 lc6, .slice pad6 q6 pc6] rfl rfl 27 #[.slice none 0 0, .slice none 0 0] (heap_new _ _) (treeInfo) (rfl) (tree_all _ _ _ _ _ _) ?_
      simp only [Act.put]
      rw [World.setRow_alloc_new]
      refine @BigFrame.wpList_want _ _ _ _ _ _ _ ?hw49047 ?_
      case hw49047 => kernel_rfl
      intro K hK
      go_simp
      refine hK _ _ ?_
      clear hK K
      refine @BigFrame.wpList_want _ _ _ _ _ _ _ ?hw49048 ?_
      case hw49048 => kernel_rfl
      intro K hK
      go_simp
      refine hK _ _ ?_
      clear hK K
      have kk7 : Kept w6.heap.size w6.heap.size w6 (w6.alloc (.cells #[.slice lad6 n6 lc6, .slice pad6 q6 pc6] 27)) := (Kept.refl _ _ _).alloc (Nat.le_refl _) _
      have K7 := Lib.hid (K6.out.next1 kk7)
      have M7 := Lib.hid (m6.kept kk7)
      have Y7 := Lib.hid (heap_new w6 (.cells #[.slice lad6 n6 lc6, .slice pad6 q6 pc6] 27))
      have N7 := Lib.hid (N6.out.kept kk7)
      have X7 := Lib.hid ((kk7.block b5 (lt_of_block X6.out) (Nat.ne_of_lt (lt_of_block X6.out))).trans X6.out)
      generalize w6.alloc (.cells #[.slice lad6 n6 lc6, .slice pad6 q6 pc6] 27) = w7 at K7 M7 Y7 N7 X7 ⊢
      obtain ⟨b7, hb7⟩ : ∃ b7, b7 = w6.heap.size := ⟨_, rfl⟩
      rw [← hb7] at Y7
      (try rw [← hb7])
      clear hb7 m6 kk7
      go_upto_region 5 with fail
      refine wp_region_lit ?_
      refine @BigFrame.wpList_want _ _ _ _ _ _ _ ?hw49049 ?_
      case hw49049 => kernel_rfl
      intro K hK
      go_simp
      go_at_call 9
      refine (HAW.out _).mono ?_
      rintro e w8 ⟨rfl, k8⟩
      have K8 := Lib.hid (K7.out.next1 k8)
      have M8 := Lib.hid (M7.out.kept k8)
      have N8 := Lib.hid (N7.out.kept k8)
      have X8 := Lib.hid ((k8.block b5 (lt_of_block X7.out) (Nat.ne_of_lt (lt_of_block X7.out))).trans X7.out)
      have Y8 := Lib.hid ((k8.block b7 (lt_of_block Y7.out) (Nat.ne_of_lt (lt_of_block Y7.out))).trans Y7.out)
      have HSM := Lib.hid (treesame_calls _ _ _ _ _ _ L9 P9 SL4 SL6 w8 N8.out M8.out HNL2.out HNP2.out HPL2.out)
      clear k8
      refine hK _ _ ?_
      clear hK K
      refine @BigFrame.wpList_want _ _ _ _ _ _ _ ?hw49051 ?_
      case hw49051 => kernel_rfl
      intro K hK
      go_simp
      refine hK _ _ ?_
      clear hK K
      refine @BigFrame.wpList_want _ _ _ _ _ _ _ ?hw49052 ?_
      case hw49052 => kernel_rfl
      intro K hK
      go_simp
      refine hK _ _ ?_
      clear hK K
      refine @BigFrame.wpList_want _ _ _ _ _ _ _ ?hw49053 ?_
      case hw49053 => kernel_rfl
      intro K hK
      go_simp
      refine hK _ _ ?_
      clear hK K
      refine @BigFrame.wpList_want _ _ _ _ _ _ _ ?hw49054 ?_
      case hw49054 => kernel_rfl
      intro K hK
      go_simp
      refine hK _ _ ?_
      clear hK K
      refine @BigFrame.wpList_want _ _ _ _ _ _ _ ?hw49055 ?_
      case hw49055 => kernel_rfl
      intro K hK
      go_simp
      refine hK _ _ ?_
      clear hK K
      refine @BigFrame.wpList_want _ _ _ _ _ _ _ ?hw49056 ?_
      case hw49056 => kernel_rfl
      intro K hK
      go_simp
      refine hK _ _ ?_
      clear hK K
      refine @BigFrame.wpList_want _ _ _ _ _ _ _ ?hw49057 ?_
      case hw49057 => kernel_rfl
      intro K hK
      go_simp
      refine hK _ _ ?_
      clear hK K
      refine @BigFrame.wpList_want _ _ _ _ _ _ _ ?hw49058 ?_
      case hw49058 => kernel_rfl
      intro K hK
      go_simp
      refine hK _ _ ?_
      clear hK K
      refine @BigFrame.wpList_want _ _ _ _ _ _ _ ?hw49059 ?_
      case hw49059 => kernel_rfl
      intro K hK
      go_simp
      refine hK _ _ ?_
      clear hK K
      refine @BigFrame.wpList_want _ _ _ _ _ _ _ ?hw49060 ?_
      case hw49060 => kernel_rfl
      intro K hK
      go_simp
      refine hK _ _ ?_
      clear hK K
      refine @BigFrame.wpList_want _ _ _ _ _ _ _ ?hw49061 ?_
      case hw49061 => kernel_rfl
      intro K hK
      go_simp
      refine hK _ _ ?_
      clear hK K
      refine @wpList_load_known _ _ _ _ _ _ _ ?hw49062 27 (.tmp 5) rfl (b5) (0) rfl (.agg #[.slice lad4 n4 lc4, .slice pad4 q4 pc4]) (run_loadVar_row w8 b5 27 27 _ (0, 0) _ X8.out Try.underlying27 rfl treeInfo) ?_
      case hw49062 => kernel_rfl
      simp only [Act.put, List.setIfInBounds_toArray, List.set_cons_zero, List.set_cons_succ]
      refine @wpList_load_known _ _ _ _ _ _ _ ?hw49063 27 (.tmp 8) rfl (b7) (0) rfl (.agg #[.slice lad6 n6 lc6, .slice pad6 q6 pc6]) (run_loadVar_row w8 b7 27 27 _ (0, 0) _ Y8.out Try.underlying27 rfl treeInfo) ?_
      case hw49063 => kernel_rfl
      simp only [Act.put, List.setIfInBounds_toArray, List.set_cons_zero, List.set_cons_succ]
      refine @BigFrame.wpList_want _ _ _ _ _ _ _ ?hw49050 ?_
      case hw49050 => kernel_rfl
      intro K hK
      go_simp
      go_at_call 19
      refine (HSM.out).mono ?_
      rintro e w9 ⟨rfl, k9⟩
      have K9 := Lib.hid (K8.out.next1 k9)
      clear k9
      refine hK _ _ ?_
      clear hK K
      refine @BigFrame.wpList_want _ _ _ _ _ _ _ ?hw49064 ?_
      case hw49064 => kernel_rfl
      intro K hK
      go_simp
      refine hK _ _ ?_
      clear hK K
      refine @BigFrame.wpList_want _ _ _ _ _ _ _ ?hw49065 ?_
      case hw49065 => kernel_rfl
      intro K hK
      go_simp
      refine hK _ _ ?_
      clear hK K
      go_wp2
      go_ret
      exact ⟨rfl, K1.out.next1 K9.out⟩

end Go.Proofs.Ytmmgekchfgmcdaa
