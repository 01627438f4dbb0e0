/-
  The law TreeRemoves.
-/
import Derived.Test.YtmmgekchfgmcdaaTreeJoin
import Derived.Test.YtmmgekchfgmcdaaTreeSame
import Derived.Test.YtmmgekchfgmcdaaTreeFew

namespace Go.Proofs.Ytmmgekchfgmcdaa
open Go.RowKit Go.Lib

theorem few_sizesM {L : List Lf} {P : List Pr} (h : Tt.few L P = true) : L.length ≤ 1000 ∧ P.length ≤ 1000 ∧ ∀ p ∈ P, p.loose.length ≤ 1000 := by
  simp only [Tt.few, Tt.fewp, Bool.and_eq_true, decide_eq_true_eq, List.all_eq_true] at h
  exact ⟨by omega, by omega, fun p hp => Nat.le_trans (h.2.2 p hp) (by decide)⟩
set_option maxRecDepth 100000 in
set_option maxHeartbeats 6400000 in
theorem treeremoves_walk (lv pv : Value) (L : List Lf) (P : List Pr) (x : Int) (w : World) (hL : Lvs w lv L) (hP : Pts w pv P) :
    Calls Try.prog 7 #[.agg #[lv, pv], .int .i64 x] w fun e w' => e = .returned (.bool true) ∧ Kept w.heap.size w.heap.size w w' := by
  have ka := (Kept.refl w.heap.size w.heap.size w).alloc (Nat.le_refl _) (.cells #[lv, pv] 27)
  have ta := heap_new w (.cells #[lv, pv] 27)
  have sa : (w.alloc (.cells #[lv, pv] 27)).heap.size = w.heap.size + 1 := by simp
  have hL1 := hL.kept ka
  have hP1 := hP.kept ka
  obtain ⟨lad, lc, rfl⟩ := hL.shape
  obtain ⟨pad, pc, rfl⟩ := hP.shape
  obtain ⟨fw, hfw⟩ : ∃ fw, fw = Tt.few L P := ⟨_, rfl⟩
  obtain ⟨rt, hrt⟩ : ∃ rt, rt = Tt.right L P := ⟨_, rfl⟩
  have hsz := fun h : fw = true => few_sizesM (L := L) (P := P) (hfw ▸ h)
  have hr := fun h : rt = true => (show Tt.right L P = true from hrt ▸ h)
  obtain ⟨ln, hln⟩ : ∃ ln, ln = L.length := ⟨_, rfl⟩
  obtain ⟨pn, hpn⟩ : ∃ pn, pn = P.length := ⟨_, rfl⟩
  rw [← hln, ← hpn] at ka ta sa hL1 hP1 ⊢
  clear hln hpn
  go_enter Try.func7, Try.ntmps7
  go_upto_region 1 with fail
  generalize w.alloc (.cells #[.slice lad ln lc, .slice pad pn pc] 27) = w1 at ka ta sa hL1 hP1 ⊢
  obtain ⟨tb, htb⟩ : ∃ tb, tb = w.heap.size := ⟨_, rfl⟩
  rw [← htb] at ta
  (try rw [← htb])
  have K1 := Lib.hid ka
  have T1 := Lib.hid ta
  have HLV := Lib.hid hL1
  have HPV := Lib.hid hP1
  clear hL hP hL1 hP1 ka ta sa htb
  have HLT := Lib.hid (fun (x : World) (k : Kept w1.heap.size w1.heap.size w1 x) => run_loadVar_row x tb 27 27 _ (0, 0) _ ((k.block tb (lt_of_block T1.out) (Nat.ne_of_lt (lt_of_block T1.out))).trans T1.out) Try.underlying27 rfl treeInfo)
  have HFW := Lib.hid (fun (x : World) (k : Kept w1.heap.size w1.heap.size w1 x) => few_calls8 _ _ L P x (HLV.out.kept k) (HPV.out.kept k))
  rw [← hfw] at HFW
  have HAW := Lib.hid (fun x => awake_calls8 x)
  have HRF := Lib.hid (fun (hf : fw = true) (x : World) (k : Kept w1.heap.size w1.heap.size w1 x) => refright_calls8 _ _ L P x (HLV.out.kept k) (HPV.out.kept k) (hsz hf).2.2)
  rw [← hrt] at HRF
  have HAC := Lib.hid (fun (hf : fw = true) (h : rt = true) (u : World) (k : Kept w1.heap.size w1.heap.size w1 u) => remove_any _ _ L P x u (HLV.out.kept k) (HPV.out.kept k) (hsz hf).2.2 (hr h))
  have HDC := Lib.hid (fun (hf : fw = true) (h : rt = true) (u : World) (k : Kept w1.heap.size w1.heap.size w1 u) => refremove_any _ _ L P x u (HLV.out.kept k) (HPV.out.kept k) (hsz hf).2.2 (hr h))
  have HPL := Lib.hid (fun h : rt = true => Tt.outP_loose (hr h) x)
  have HNL := Lib.hid (fun hf : fw = true => Nat.le_trans (Tt.outL_length L x) (hsz hf).1)
  have HNP := Lib.hid (fun hf : fw = true => Nat.le_trans (Tt.outP_length L P x) (hsz hf).2.1)
  obtain ⟨er, her⟩ : ∃ er, er = Tt.noneErr L x := ⟨_, rfl⟩
  obtain ⟨L9, hL9⟩ : ∃ L9, L9 = Tt.outL L x := ⟨_, rfl⟩
  obtain ⟨P9, hP9⟩ : ∃ P9, P9 = Tt.outP L P x := ⟨_, rfl⟩
  rw [← her, ← hL9, ← hP9] at HAC HDC
  rw [← hP9] at HPL HNP
  rw [← hL9] at HNL
  clear hfw hrt hsz hr her hL9 hP9 HLV HPV
  cases fw with
  | false =>
    refine wp_region_lit ?_
    refine @wpList_load_known _ _ _ _ _ _ _ ?hw45060 27 (.tmp 2) rfl (tb) (0) rfl (.agg #[.slice lad ln lc, .slice pad pn pc]) (HLT.out w1 (Kept.refl w1.heap.size w1.heap.size w1)) ?_
    case hw45060 => kernel_rfl
    simp only [Act.put, List.setIfInBounds_toArray, List.set_cons_zero, List.set_cons_succ]
    refine @BigFrame.wpList_want _ _ _ _ _ _ _ ?hw45059 ?_
    case hw45059 => kernel_rfl
    intro K hK
    go_simp
    go_at_call 14
    refine (HFW.out w1 (Kept.refl w1.heap.size w1.heap.size w1)).mono ?_
    rintro e w2 ⟨rfl, k2⟩
    have K2 := Lib.hid k2
    clear k2
    refine hK _ _ ?_
    clear hK K
    refine @BigFrame.wpList_want _ _ _ _ _ _ _ ?hw45061 ?_
    case hw45061 => kernel_rfl
    intro K hK
    go_simp
    refine hK _ _ ?_
    clear hK K
    refine @BigFrame.wpList_want _ _ _ _ _ _ _ ?hw45062 ?_
    case hw45062 => kernel_rfl
    intro K hK
    go_simp
    refine hK _ _ ?_
    clear hK K
    refine @wpList_skip _ _ _ _ _ _ _ ?hw45063 ?_
    case hw45063 => kernel_rfl
    simp only [Act.put, List.setIfInBounds_toArray, List.set_cons_zero, List.set_cons_succ]
    refine @wpList_skip _ _ _ _ _ _ _ ?hw45064 ?_
    case hw45064 => kernel_rfl
    simp only [Act.put, List.setIfInBounds_toArray, List.set_cons_zero, List.set_cons_succ]
    refine @wpList_skip _ _ _ _ _ _ _ ?hw45065 ?_
    case hw45065 => kernel_rfl
    simp only [Act.put, List.setIfInBounds_toArray, List.set_cons_zero, List.set_cons_succ]
    refine @BigFrame.wpList_want _ _ _ _ _ _ _ ?hw45066 ?_
    case hw45066 => kernel_rfl
    intro K hK
    go_simp
    refine hK _ _ ?_
    clear hK K
    go_upto_region 2 with fail
    refine wp_region_lit ?_
    refine @BigFrame.wpList_want _ _ _ _ _ _ _ ?hw45067 ?_
    case hw45067 => kernel_rfl
    intro K hK
    go_simp
    go_at_call 9
    refine (HAW.out _).mono ?_
    rintro e w3 ⟨rfl, k3⟩
    have K3 := Lib.hid (K2.out.next1 k3)
    clear k3
    refine hK _ _ ?_
    clear hK K
    refine @BigFrame.wpList_want _ _ _ _ _ _ _ ?hw45068 ?_
    case hw45068 => kernel_rfl
    intro K hK
    go_simp
    refine hK _ _ ?_
    clear hK K
    go_wp2
    go_ret
    exact ⟨rfl, K1.out.next1 K3.out⟩
  | true =>
    have HR2 := Lib.hid (HRF.out rfl)
    clear HRF
    cases rt with
    | false =>
      refine wp_region_lit ?_
      refine @wpList_load_known _ _ _ _ _ _ _ ?hw45071 27 (.tmp 2) rfl (tb) (0) rfl (.agg #[.slice lad ln lc, .slice pad pn pc]) (HLT.out w1 (Kept.refl w1.heap.size w1.heap.size w1)) ?_
      case hw45071 => kernel_rfl
      simp only [Act.put, List.setIfInBounds_toArray, List.set_cons_zero, List.set_cons_succ]
      refine @BigFrame.wpList_want _ _ _ _ _ _ _ ?hw45069 ?_
      case hw45069 => kernel_rfl
      intro K hK
      go_simp
      go_at_call 14
      refine (HFW.out w1 (Kept.refl w1.heap.size w1.heap.size w1)).mono ?_
      rintro e w2 ⟨rfl, k2⟩
      have K2 := Lib.hid k2
      clear k2
      refine hK _ _ ?_
      clear hK K
      refine @BigFrame.wpList_want _ _ _ _ _ _ _ ?hw45072 ?_
      case hw45072 => kernel_rfl
      intro K hK
      go_simp
      refine hK _ _ ?_
      clear hK K
      refine @BigFrame.wpList_want _ _ _ _ _ _ _ ?hw45073 ?_
      case hw45073 => kernel_rfl
      intro K hK
      go_simp
      refine hK _ _ ?_
      clear hK K
      refine @wpList_load_known _ _ _ _ _ _ _ ?hw45074 27 (.tmp 2) rfl (tb) (0) rfl (.agg #[.slice lad ln lc, .slice pad pn pc]) (HLT.out w2 K2.out) ?_
      case hw45074 => kernel_rfl
      simp only [Act.put, List.setIfInBounds_toArray, List.set_cons_zero, List.set_cons_succ]
      refine @BigFrame.wpList_want _ _ _ _ _ _ _ ?hw45070 ?_
      case hw45070 => kernel_rfl
      intro K hK
      go_simp
      go_at_call 16
      refine (HR2.out w2 K2.out).mono ?_
      rintro e w3 ⟨rfl, k3⟩
      have K3 := Lib.hid (K2.out.next1 k3)
      clear k3
      refine hK _ _ ?_
      clear hK K
      refine @BigFrame.wpList_want _ _ _ _ _ _ _ ?hw45075 ?_
      case hw45075 => kernel_rfl
      intro K hK
      go_simp
      refine hK _ _ ?_
      clear hK K
      refine @BigFrame.wpList_want _ _ _ _ _ _ _ ?hw45076 ?_
      case hw45076 => kernel_rfl
      intro K hK
      go_simp
      refine hK _ _ ?_
      clear hK K
      go_upto_region 2 with fail
      refine wp_region_lit ?_
      refine @BigFrame.wpList_want _ _ _ _ _ _ _ ?hw45077 ?_
      case hw45077 => kernel_rfl
      intro K hK
      go_simp
      go_at_call 9
      refine (HAW.out _).mono ?_
      rintro e w4 ⟨rfl, k4⟩
      have K4 := Lib.hid (K3.out.next1 k4)
      clear k4
      refine hK _ _ ?_
      clear hK K
      refine @BigFrame.wpList_want _ _ _ _ _ _ _ ?hw45078 ?_
      case hw45078 => kernel_rfl
      intro K hK
      go_simp
      refine hK _ _ ?_
      clear hK K
      go_wp2
      go_ret
      exact ⟨rfl, K1.out.next1 K4.out⟩
    | true =>
      have HA2 := Lib.hid (HAC.out rfl rfl)
      have HD2 := Lib.hid (HDC.out rfl rfl)
      have HPL2 := Lib.hid (HPL.out rfl)
      have HNL2 := Lib.hid (HNL.out rfl)
      have HNP2 := Lib.hid (HNP.out rfl)
      clear HAC HDC HPL HNL HNP
      refine wp_region_lit ?_
      refine @wpList_load_known _ _ _ _ _ _ _ ?hw45081 27 (.tmp 2) rfl (tb) (0) rfl (.agg #[.slice lad ln lc, .slice pad pn pc]) (HLT.out w1 (Kept.refl w1.heap.size w1.heap.size w1)) ?_
      case hw45081 => kernel_rfl
      simp only [Act.put, List.setIfInBounds_toArray, List.set_cons_zero, List.set_cons_succ]
      refine @BigFrame.wpList_want _ _ _ _ _ _ _ ?hw45079 ?_
      case hw45079 => kernel_rfl
      intro K hK
      go_simp
      go_at_call 14
      refine (HFW.out w1 (Kept.refl w1.heap.size w1.heap.size w1)).mono ?_
      rintro e w2 ⟨rfl, k2⟩
      have K2 := Lib.hid k2
      clear k2
      refine hK _ _ ?_
      clear hK K
      refine @BigFrame.wpList_want _ _ _ _ _ _ _ ?hw45082 ?_
      case hw45082 => kernel_rfl
      intro K hK
      go_simp
      refine hK _ _ ?_
      clear hK K
      refine @BigFrame.wpList_want _ _ _ _ _ _ _ ?hw45083 ?_
      case hw45083 => kernel_rfl
      intro K hK
      go_simp
      refine hK _ _ ?_
      clear hK K
      refine @wpList_load_known _ _ _ _ _ _ _ ?hw45084 27 (.tmp 2) rfl (tb) (0) rfl (.agg #[.slice lad ln lc, .slice pad pn pc]) (HLT.out w2 K2.out) ?_
      case hw45084 => kernel_rfl
      simp only [Act.put, List.setIfInBounds_toArray, List.set_cons_zero, List.set_cons_succ]
      refine @BigFrame.wpList_want _ _ _ _ _ _ _ ?hw45080 ?_
      case hw45080 => kernel_rfl
      intro K hK
      go_simp
      go_at_call 16
      refine (HR2.out w2 K2.out).mono ?_
      rintro e w3 ⟨rfl, k3⟩
      have K3 := Lib.hid (K2.out.next1 k3)
      clear k3
      refine hK _ _ ?_
      clear hK K
      refine @BigFrame.wpList_want _ _ _ _ _ _ _ ?hw45085 ?_
      case hw45085 => kernel_rfl
      intro K hK
      go_simp
      refine hK _ _ ?_
      clear hK K
      refine @BigFrame.wpList_want _ _ _ _ _ _ _ ?hw45086 ?_
      case hw45086 => kernel_rfl
      intro K hK
      go_simp
      refine hK _ _ ?_
      clear hK K
      go_upto_region 3 with fail
      refine wp_region_lit ?_
      refine @wpList_load_known _ _ _ _ _ _ _ ?hw45088 27 (.tmp 2) rfl (tb) (0) rfl (.agg #[.slice lad ln lc, .slice pad pn pc]) (HLT.out w3 K3.out) ?_
      case hw45088 => kernel_rfl
      simp only [Act.put, List.setIfInBounds_toArray, List.set_cons_zero, List.set_cons_succ]
      refine @BigFrame.wpList_want _ _ _ _ _ _ _ ?hw45089 ?_
      case hw45089 => kernel_rfl
      intro K hK
      go_simp
      refine hK _ _ ?_
      clear hK K
      refine @BigFrame.wpList_want _ _ _ _ _ _ _ ?hw45087 ?_
      case hw45087 => kernel_rfl
      intro K hK
      go_simp
      go_at_call 22
      refine (HA2.out w3 K3.out).mono ?_
      rintro e w4 ⟨lv4, pv4, rfl, k4, SL4, m4⟩
      obtain ⟨lad4, lc4, rfl⟩ := m4.lvs.shape
      obtain ⟨pad4, pc4, rfl⟩ := m4.pts.shape
      obtain ⟨n4, hn4⟩ : ∃ n4, n4 = L9.length := ⟨_, rfl⟩
      obtain ⟨q4, hq4⟩ : ∃ q4, q4 = P9.length := ⟨_, rfl⟩
      rw [← hn4, ← hq4] at m4 ⊢
      clear hn4 hq4
      have K4 := Lib.hid (K3.out.next1 k4)
      clear k4
      refine hK _ _ ?_
      clear hK K
      refine @BigFrame.wpList_want _ _ _ _ _ _ _ ?hw45090 ?_
      case hw45090 => kernel_rfl
      intro K hK
      go_simp
      refine hK _ _ ?_
      clear hK K
      refine @BigFrame.wpList_want _ _ _ _ _ _ _ ?hw45091 ?_
      case hw45091 => kernel_rfl
      intro K hK
      go_simp
      refine hK _ _ ?_
      clear hK K
      refine @BigFrame.wpList_want _ _ _ _ _ _ _ ?hw45092 ?_
      case hw45092 => kernel_rfl
      intro K hK
      go_simp
      refine hK _ _ ?_
      clear hK K
      refine @wpL_alloc _ _ _ _ _ _ _ _ ?hw45093 27 rfl _ (alloc_tree _) ?_
      case hw45093 => kernel_rfl
      simp only [Act.put, List.setIfInBounds_toArray, List.set_cons_zero, List.set_cons_succ]
      refine wpList_store_row rfl 27 _ _ rfl (w4.heap.size) #[.slice lad4 n4 lc4, .slice pad4 q4 pc4] rfl rfl 27 #[.slice none 0 0, .slice none 0 0] (heap_new _ _) (treeInfo) (rfl) (tree_all _ _ _ _ _ _) ?_
      simp only [Act.put]
      rw [World.setRow_alloc_new]
      refine @BigFrame.wpList_want _ _ _ _ _ _ _ ?hw45094 ?_
      case hw45094 => kernel_rfl
      intro K hK
      go_simp
      refine hK _ _ ?_
      clear hK K
      have kk5 : Kept w4.heap.size w4.heap.size w4 (w4.alloc (.cells #[.slice lad4 n4 lc4, .slice pad4 q4 pc4] 27)) := (Kept.refl _ _ _).alloc (Nat.le_refl _) _
      have K5 := Lib.hid (K4.out.next1 kk5)
      have M5 := Lib.hid (m4.kept kk5)
      have X5 := Lib.hid (heap_new w4 (.cells #[.slice lad4 n4 lc4, .slice pad4 q4 pc4] 27))
      generalize w4.alloc (.cells #[.slice lad4 n4 lc4, .slice pad4 q4 pc4] 27) = w5 at K5 M5 X5 ⊢
      obtain ⟨b5, hb5⟩ : ∃ b5, b5 = w4.heap.size := ⟨_, rfl⟩
      rw [← hb5] at X5
      (try rw [← hb5])
      clear hb5 m4 kk5
      go_upto_region 4 with fail
      refine wp_region_lit ?_
      refine @wpList_load_known _ _ _ _ _ _ _ ?hw45096 27 (.tmp 2) rfl (tb) (0) rfl (.agg #[.slice lad ln lc, .slice pad pn pc]) (HLT.out w5 K5.out) ?_
      case hw45096 => kernel_rfl
      simp only [Act.put, List.setIfInBounds_toArray, List.set_cons_zero, List.set_cons_succ]
      refine @BigFrame.wpList_want _ _ _ _ _ _ _ ?hw45097 ?_
      case hw45097 => kernel_rfl
      intro K hK
      go_simp
      refine hK _ _ ?_
      clear hK K
      refine @BigFrame.wpList_want _ _ _ _ _ _ _ ?hw45095 ?_
      case hw45095 => kernel_rfl
      intro K hK
      go_simp
      go_at_call 23
      refine (HD2.out w5 K5.out).mono ?_
      rintro e w6 ⟨lv6, pv6, rfl, k6, SL6, m6⟩
      obtain ⟨lad6, lc6, rfl⟩ := m6.lvs.shape
      obtain ⟨pad6, pc6, rfl⟩ := m6.pts.shape
      obtain ⟨n6, hn6⟩ : ∃ n6, n6 = L9.length := ⟨_, rfl⟩
      obtain ⟨q6, hq6⟩ : ∃ q6, q6 = P9.length := ⟨_, rfl⟩
      rw [← hn6, ← hq6] at m6 ⊢
      clear hn6 hq6
      have K6 := Lib.hid (K5.out.next1 k6)
      have N6 := Lib.hid (M5.out.kept k6)
      have X6 := Lib.hid ((k6.block b5 (lt_of_block X5.out) (Nat.ne_of_lt (lt_of_block X5.out))).trans X5.out)
      clear k6
      refine hK _ _ ?_
      clear hK K
      refine @BigFrame.wpList_want _ _ _ _ _ _ _ ?hw45098 ?_
      case hw45098 => kernel_rfl
      intro K hK
      go_simp
      refine hK _ _ ?_
      clear hK K
      refine @BigFrame.wpList_want _ _ _ _ _ _ _ ?hw45099 ?_
      case hw45099 => kernel_rfl
      intro K hK
      go_simp
      refine hK _ _ ?_
      clear hK K
      refine @BigFrame.wpList_want _ _ _ _ _ _ _ ?hw45100 ?_
      case hw45100 => kernel_rfl
      intro K hK
      go_simp
      refine hK _ _ ?_
      clear hK K
      refine @wpL_alloc _ _ _ _ _ _ _ _ ?hw45101 27 rfl _ (alloc_tree _) ?_
      case hw45101 => kernel_rfl
      simp only [Act.put, List.setIfInBounds_toArray, List.set_cons_zero, List.set_cons_succ]
      refine wpList_store_row rfl 27 _ _ rfl (w6.heap.size) #[.slice lad6 n6 lc6, .slice pad6 q6 pc6] rfl rfl 27 #[.slice none 0 0, .slice none 0 0] (heap_new _ _) (treeInfo) (rfl) (tree_all _ _ _ _ _ _) ?_
      simp only [Act.put]
      rw [World.setRow_alloc_new]
      refine @BigFrame.wpList_want _ _ _ _ _ _ _ ?hw45102 ?_
      case hw45102 => kernel_rfl
      intro K hK
      go_simp
      refine hK _ _ ?_
      clear hK K
      have kk7 : Kept w6.heap.size w6.heap.size w6 (w6.alloc (.cells #[.slice lad6 n6 lc6, .slice pad6 q6 pc6] 27)) := (Kept.refl _ _ _).alloc (Nat.le_refl _) _
      have K7 := Lib.hid (K6.out.next1 kk7)
      have M7 := Lib.hid (m6.kept kk7)
      have Y7 := Lib.hid (heap_new w6 (.cells #[.slice lad6 n6 lc6, .slice pad6 q6 pc6] 27))
      have N7 := Lib.hid (N6.out.kept kk7)
      have X7 := Lib.hid ((kk7.block b5 (lt_of_block X6.out) (Nat.ne_of_lt (lt_of_block X6.out))).trans X6.out)
      generalize w6.alloc (.cells #[.slice lad6 n6 lc6, .slice pad6 q6 pc6] 27) = w7 at K7 M7 Y7 N7 X7 ⊢
      obtain ⟨b7, hb7⟩ : ∃ b7, b7 = w6.heap.size := ⟨_, rfl⟩
      rw [← hb7] at Y7
      (try rw [← hb7])
      clear hb7 m6 kk7
      go_upto_region 5 with fail
      refine wp_region_lit ?_
      refine @BigFrame.wpList_want _ _ _ _ _ _ _ ?hw45103 ?_
      case hw45103 => kernel_rfl
      intro K hK
      go_simp
      go_at_call 9
      refine (HAW.out _).mono ?_
      rintro e w8 ⟨rfl, k8⟩
      have K8 := Lib.hid (K7.out.next1 k8)
      have M8 := Lib.hid (M7.out.kept k8)
      have N8 := Lib.hid (N7.out.kept k8)
      have X8 := Lib.hid ((k8.block b5 (lt_of_block X7.out) (Nat.ne_of_lt (lt_of_block X7.out))).trans X7.out)
      have Y8 := Lib.hid ((k8.block b7 (lt_of_block Y7.out) (Nat.ne_of_lt (lt_of_block Y7.out))).trans Y7.out)
      have HSM := Lib.hid (treesame_calls _ _ _ _ _ _ L9 P9 SL4 SL6 w8 N8.out M8.out HNL2.out HNP2.out HPL2.out)
      clear k8
      refine hK _ _ ?_
      clear hK K
      refine @BigFrame.wpList_want _ _ _ _ _ _ _ ?hw45105 ?_
      case hw45105 => kernel_rfl
      intro K hK
      go_simp
      refine hK _ _ ?_
      clear hK K
      refine @BigFrame.wpList_want _ _ _ _ _ _ _ ?hw45106 ?_
      case hw45106 => kernel_rfl
      intro K hK
      go_simp
      refine hK _ _ ?_
      clear hK K
      refine @BigFrame.wpList_want _ _ _ _ _ _ _ ?hw45107 ?_
      case hw45107 => kernel_rfl
      intro K hK
      go_simp
      refine hK _ _ ?_
      clear hK K
      refine @BigFrame.wpList_want _ _ _ _ _ _ _ ?hw45108 ?_
      case hw45108 => kernel_rfl
      intro K hK
      go_simp
      refine hK _ _ ?_
      clear hK K
      refine @BigFrame.wpList_want _ _ _ _ _ _ _ ?hw45109 ?_
      case hw45109 => kernel_rfl
      intro K hK
      go_simp
      refine hK _ _ ?_
      clear hK K
      refine @BigFrame.wpList_want _ _ _ _ _ _ _ ?hw45110 ?_
      case hw45110 => kernel_rfl
      intro K hK
      go_simp
      refine hK _ _ ?_
      clear hK K
      refine @wpList_load_known _ _ _ _ _ _ _ ?hw45111 27 (.tmp 5) rfl (b5) (0) rfl (.agg #[.slice lad4 n4 lc4, .slice pad4 q4 pc4]) (run_loadVar_row w8 b5 27 27 _ (0, 0) _ X8.out Try.underlying27 rfl treeInfo) ?_
      case hw45111 => kernel_rfl
      simp only [Act.put, List.setIfInBounds_toArray, List.set_cons_zero, List.set_cons_succ]
      refine @wpList_load_known _ _ _ _ _ _ _ ?hw45112 27 (.tmp 7) rfl (b7) (0) rfl (.agg #[.slice lad6 n6 lc6, .slice pad6 q6 pc6]) (run_loadVar_row w8 b7 27 27 _ (0, 0) _ Y8.out Try.underlying27 rfl treeInfo) ?_
      case hw45112 => kernel_rfl
      simp only [Act.put, List.setIfInBounds_toArray, List.set_cons_zero, List.set_cons_succ]
      refine @BigFrame.wpList_want _ _ _ _ _ _ _ ?hw45104 ?_
      case hw45104 => kernel_rfl
      intro K hK
      go_simp
      go_at_call 19
      refine (HSM.out).mono ?_
      rintro e w9 ⟨rfl, k9⟩
      have K9 := Lib.hid (K8.out.next1 k9)
      clear k9
      refine hK _ _ ?_
      clear hK K
      refine @BigFrame.wpList_want _ _ _ _ _ _ _ ?hw45113 ?_
      case hw45113 => kernel_rfl
      intro K hK
      go_simp
      refine hK _ _ ?_
      clear hK K
      refine @BigFrame.wpList_want _ _ _ _ _ _ _ ?hw45114 ?_
      case hw45114 => kernel_rfl
      intro K hK
      go_simp
      refine hK _ _ ?_
      clear hK K
      go_wp2
      go_ret
      exact ⟨rfl, K1.out.next1 K9.out⟩

end Go.Proofs.Ytmmgekchfgmcdaa
