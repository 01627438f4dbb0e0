/-
  The walk of the statement BookNil: a nil book has nothing.
-/
import Derived.Test.YtmcnmcnmcpfmiaaBookFollowsLaw

namespace Go.Proofs.Ytmcnmcnmcpfmiaa
open Go.RowKit Go.Lib

theorem hashInfoZ : (Try.prog.info? 39).map (·.size) = some zeros32.size := by rw [zeros32_size]; kernel_rfl

set_option maxRecDepth 100000 in
set_option maxHeartbeats 3200000 in
theorem booknil_walk (f : List (List UInt8) × List (List UInt8)) (a b : Value) (s : ByteArray) (F : List (List UInt8)) (u : Value) (w : World) (ha : Hs w a f.1) (hb : Hs w b f.2) (hF : Hs w u F) : Calls Try.prog 7 #[.agg #[a, b], .string s, u] w fun e w' => e = .returned (.bool true) ∧ Kept w.heap.size w.heap.size w w' := by
  obtain ⟨zp1, uad, ug, uo, uc, rfl, zp2⟩ := id hF
  clear zp1 zp2
  obtain ⟨zp1, aad, ag, ao, ac, rfl, zp2⟩ := id ha
  clear zp1 zp2
  obtain ⟨zp1, bad, bg, bo, bc, rfl, zp2⟩ := id hb
  clear zp1 zp2
  have l1 : (bcells (dg 1)).length = 32 := rfl
  have b1 := build_dg1
  obtain ⟨d1, hd1⟩ : ∃ d, d = (bcells (dg 1)).toArray := ⟨_, rfl⟩
  rw [← hd1] at b1
  have B1 := Lib.hid b1
  have D1 := Lib.hid hd1
  clear b1 hd1 l1
  have haw := awake_calls
  have HAW := Lib.hid haw
  clear haw
  go_enter Try.func7, Try.ntmps7
  go_upto_region 1 with fail
  have hX : (w.alloc (.cells #[.slice aad f.1.length ac, .slice bad f.2.length bc] 44)).heap[w.heap.size]? = some (.cells #[.slice aad f.1.length ac, .slice bad f.2.length bc] 44 (0, 0)) := heap_new _ _
  have k1 : Kept w.heap.size w.heap.size w (w.alloc (.cells #[.slice aad f.1.length ac, .slice bad f.2.length bc] 44)) := (Kept.refl _ _ _).alloc (Nat.le_refl _) _
  generalize w.alloc (.cells #[.slice aad f.1.length ac, .slice bad f.2.length bc] 44) = w1 at hX k1 ⊢
  obtain ⟨wa, hwa⟩ : ∃ wa, wa = w.heap.size := ⟨_, rfl⟩
  rw [← hwa] at hX ⊢
  have x0 := two_cell0 hX
  have x1 := two_cell1 hX
  have hout : ∀ w', Kept w1.heap.size w1.heap.size w1 w' → Kept w.heap.size w.heap.size w w' := fun w' kk => k1.trans (kk.mono k1.size (fun i hi _ => by have := k1.size; omega))
  have hcx : ∀ w', Kept w1.heap.size w1.heap.size w1 w' → w'.cell? ⟨wa, 1, none⟩ = some (.slice bad f.2.length bc) := fun w' kk => (kk.cell (p := ⟨wa, 1, none⟩) (lt_of_block hX) (Nat.ne_of_lt (lt_of_block hX))).trans x1
  have hpl : ∀ w', Kept w1.heap.size w1.heap.size w1 w' → F.length < 1000000 → Calls Try.prog 20 #[.slice uad F.length uc] w' fun e w2 => ∃ u, e = .returned u ∧ Own w2 w'.heap.size u F ∧ Kept w'.heap.size w'.heap.size w' w2 := fun w' k h => plain_calls F _ w' ((hF.kept k1).kept k) (by omega)
  have hfo : ∀ w', Kept w1.heap.size w1.heap.size w1 w' → F.length < 1000000 → Calls Try.prog 21 #[.pointer none, .slice uad F.length uc] w' fun e w2 => ∃ r M, e = .returned r ∧ Hs w2 r M ∧ Bk.Is [] F M ∧ Kept w'.heap.size w'.heap.size w' w2 := fun w' k h => follows_nil F _ w' ((hF.kept k1).kept k) h
  have hrf : ∀ (w' : World) (q : Value), Hs w' q F → F.length < 1000000 → Calls Try.prog 22 #[.slice none 0 0, q] w' fun e w2 => ∃ r M, e = .returned r ∧ Own w2 w'.heap.size r M ∧ Bk.Is [] F M ∧ Kept w'.heap.size w'.heap.size w' w2 := fun w' q hq h => reffollows_calls [] F (.slice none 0 0) q w' (OwnF.nil _ 0).fs hq (by simp [Bk.outs]; omega) (by decide) (fun _ h => nomatch h)
  have hnn := note_nil f _ _ w1 (ha.kept k1) (hb.kept k1)
  have hia : (Try.prog.info? 44).map (·.size) = some (#[Value.slice aad f.1.length ac, .slice bad f.2.length bc] : Array Value).size := notedFactInfo
  have HX := Lib.hid hX
  have HOUT := Lib.hid hout
  have HCX := Lib.hid hcx
  have HPL := Lib.hid hpl
  have HFO := Lib.hid hfo
  have HRF := Lib.hid hrf
  have HNN := Lib.hid hnn
  have HIA := Lib.hid hia
  clear hX k1 hout hcx hpl hfo hrf hnn hia ha hb hF hwa
  by_cases z1 : 60 < f.1.length
  · have dz1 : decide ((60 : Int) < (f.1.length : Int)) = true := decide_eq_true (by omega)
    go_wp2_with fail
    refine (HAW.out _).mono ?_
    rintro e w3 ⟨rfl, k3⟩
    go_wp2
    go_ret
    exact ⟨rfl, HOUT.out _ k3⟩
  have dz1 : decide ((60 : Int) < (f.1.length : Int)) = false := decide_eq_false (by omega)
  by_cases z2 : 60 < f.2.length
  · have dz2 : decide ((60 : Int) < (f.2.length : Int)) = true := decide_eq_true (by omega)
    go_wp2_with fail
    refine (HAW.out _).mono ?_
    rintro e w3 ⟨rfl, k3⟩
    go_wp2
    go_ret
    exact ⟨rfl, HOUT.out _ k3⟩
  have dz2 : decide ((60 : Int) < (f.2.length : Int)) = false := decide_eq_false (by omega)
  by_cases z3 : 60 < F.length
  · have dz3 : decide ((60 : Int) < (F.length : Int)) = true := decide_eq_true (by omega)
    go_wp2_with fail
    refine (HAW.out _).mono ?_
    rintro e w3 ⟨rfl, k3⟩
    go_wp2
    go_ret
    exact ⟨rfl, HOUT.out _ k3⟩
  have dz3 : decide ((60 : Int) < (F.length : Int)) = false := decide_eq_false (by omega)
  have hF6 : F.length < 1000000 := by omega
  generalize hE : (if f.2.length = 0 then (1 : Int) else 0) = E at HNN
  have HE := Lib.hid hE
  clear hE
  go_upto_region 4 with fail
  refine wp_region_lit ?_
  refine BigFrame.wpList_want ?hwa0 ?_
  case hwa0 => kernel_rfl
  intro K hK
  go_simp
  refine hK _ _ ?_
  clear hK K
  refine wpList_load_row_g ?hwa1 44 _ rfl wa rfl 44 #[.slice aad f.1.length ac, .slice bad f.2.length bc] (0, 0) _ HX.out Try.underlying44 rfl HIA.out ?_
  case hwa1 => kernel_rfl
  simp only [Act.put, List.setIfInBounds_toArray, List.set_cons_zero, List.set_cons_succ]
  refine BigFrame.wpList_want ?hwa2 ?_
  case hwa2 => kernel_rfl
  intro K hK
  go_simp
  go_at_call 30; refine HNN.out.mono ?_; rintro e w2 ⟨rfl, k2⟩
  refine hK _ _ ?_
  clear hK K
  refine BigFrame.wpList_want ?hwa3 ?_
  case hwa3 => kernel_rfl
  intro K hK
  go_simp
  refine hK _ _ ?_
  clear hK K
  clear x0
  have hnm := name_nil s (dg 1) w2
  rw [← D1.out] at hnm
  have HNM := Lib.hid hnm
  clear hnm
  go_upto_region 5 with fail
  refine wp_region_lit ?_
  refine BigFrame.wpList_want ?hwb0 ?_
  case hwb0 => kernel_rfl
  intro K hK
  go_simp
  refine hK _ _ ?_
  clear hK K
  refine BigFrame.wpList_want ?hwb1 ?_
  case hwb1 => kernel_rfl
  intro K hK
  go_simp
  refine hK _ _ ?_
  clear hK K
  refine wpList_build_k rfl 39 _ rfl (.int .u8 1) rfl (B1.out _) ?_
  simp only [Act.put, List.setIfInBounds_toArray, List.set_cons_zero, List.set_cons_succ]
  refine BigFrame.wpList_want ?hwb3 ?_
  case hwb3 => kernel_rfl
  intro K hK
  go_simp
  go_at_call 27; refine HNM.out.mono ?_; rintro e w3 ⟨rfl, k3⟩
  refine hK _ _ ?_
  clear hK K
  have K3 := k2.trans (k3.mono k2.size (fun i hi _ => by have := k2.size; omega))
  have hnd := named_nil s w3
  have HND := Lib.hid hnd
  clear hnd
  go_upto_region 6 with fail
  refine wp_region_lit ?_
  refine BigFrame.wpList_want ?hwc0 ?_
  case hwc0 => kernel_rfl
  intro K hK
  go_simp
  refine hK _ _ ?_
  clear hK K
  refine BigFrame.wpList_want ?hwc1 ?_
  case hwc1 => kernel_rfl
  intro K hK
  go_simp
  refine hK _ _ ?_
  clear hK K
  refine BigFrame.wpList_want ?hwc2 ?_
  case hwc2 => kernel_rfl
  intro K hK
  go_simp
  go_at_call 28; refine HND.out.mono ?_; rintro e w4 ⟨rfl, k4⟩
  refine hK _ _ ?_
  clear hK K
  refine BigFrame.wpList_want ?hwc3 ?_
  case hwc3 => kernel_rfl
  intro K hK
  go_simp
  refine hK _ _ ?_
  clear hK K
  refine BigFrame.wpList_want ?hwc4 ?_
  case hwc4 => kernel_rfl
  intro K hK
  go_simp
  refine hK _ _ ?_
  clear hK K
  refine BigFrame.wpList_want ?hwc5 ?_
  case hwc5 => kernel_rfl
  intro K hK
  go_simp
  refine hK _ _ ?_
  clear hK K
  refine wpList_alloc_k rfl 39 rfl (alloc_zero _) ?_
  simp only [Act.put, List.setIfInBounds_toArray, List.set_cons_zero, List.set_cons_succ]
  have K4 := K3.trans (k4.mono K3.size (fun i hi _ => by have := K3.size; omega))
  have K5 : Kept w1.heap.size w1.heap.size w1 (w4.alloc (.cells zeros32 39)) := K4.alloc K4.size _
  refine wpList_store_row rfl 39 _ _ rfl w4.heap.size zeros32 rfl rfl 39 zeros32 (heap_new _ _) hashInfoZ rfl zeros32_one ?_
  simp only [Act.put]
  have K6 : Kept w1.heap.size w1.heap.size w1 ((w4.alloc (.cells zeros32 39)).setRow w4.heap.size zeros32) := Kept.ofBelow (below_setRow (K5.below (Nat.le_refl _) (Nat.le_refl _)) K4.size zeros32) (Nat.le_refl _)
  generalize (w4.alloc (.cells zeros32 39)).setRow w4.heap.size zeros32 = w5 at K6 ⊢
  clear K5
  refine BigFrame.wpList_want ?hwc8 ?_
  case hwc8 => kernel_rfl
  intro K hK
  go_simp
  refine hK _ _ ?_
  clear hK K
  go_upto_region 7 with fail
  refine wp_region_lit ?_
  refine BigFrame.wpList_want ?hwd0 ?_
  case hwd0 => kernel_rfl
  intro K hK
  go_simp
  go_at_call 16; refine (HAW.out _).mono ?_; rintro e w6 ⟨rfl, k6⟩
  refine hK _ _ ?_
  clear hK K
  have K7 := K6.trans (k6.mono K6.size (fun i hi _ => by have := K6.size; omega))
  have cx := HCX.out w6 K7
  clear x1 k2 k3 K3 k4 K4 K6 k6
  by_cases hz : f.2.length = 0
  · rw [hz] at cx
    have hE1 : E = 1 := by rw [← HE.out, if_pos hz]
    subst hE1
    clear hz
    refine BigFrame.wpList_want ?hwe01 ?_
    case hwe01 => kernel_rfl
    intro K hK
    go_simp
    refine hK _ _ ?_
    clear hK K
    refine BigFrame.wpList_want ?hwe02 ?_
    case hwe02 => kernel_rfl
    intro K hK
    go_simp
    refine hK _ _ ?_
    clear hK K
    refine BigFrame.wpList_want ?hwe03 ?_
    case hwe03 => kernel_rfl
    intro K hK
    go_simp
    refine hK _ _ ?_
    clear hK K
    refine BigFrame.wpList_want ?hwe04 ?_
    case hwe04 => kernel_rfl
    intro K hK
    go_simp
    refine hK _ _ ?_
    clear hK K
    refine BigFrame.wpList_want ?hwe05 ?_
    case hwe05 => kernel_rfl
    intro K hK
    go_simp
    refine hK _ _ ?_
    clear hK K
    refine BigFrame.wpList_want ?hwe06 ?_
    case hwe06 => kernel_rfl
    intro K hK
    go_simp
    refine hK _ _ ?_
    clear hK K
    refine BigFrame.wpList_want ?hwe07 ?_
    case hwe07 => kernel_rfl
    intro K hK
    go_simp
    refine hK _ _ ?_
    clear hK K
    refine BigFrame.wpList_want ?hwe08 ?_
    case hwe08 => kernel_rfl
    intro K hK
    go_simp
    refine hK _ _ ?_
    clear hK K
    refine BigFrame.wpList_want ?hwe09 ?_
    case hwe09 => kernel_rfl
    intro K hK
    go_simp
    refine hK _ _ ?_
    clear hK K
    refine BigFrame.wpList_want ?hwe10 ?_
    case hwe10 => kernel_rfl
    intro K hK
    go_simp
    refine hK _ _ ?_
    clear hK K
    refine BigFrame.wpList_want ?hwe11 ?_
    case hwe11 => kernel_rfl
    intro K hK
    go_simp
    refine hK _ _ ?_
    clear hK K
    refine BigFrame.wpList_want ?hwe12 ?_
    case hwe12 => kernel_rfl
    intro K hK
    go_simp
    refine hK _ _ ?_
    clear hK K
    refine BigFrame.wpList_want ?hwe13 ?_
    case hwe13 => kernel_rfl
    intro K hK
    go_simp
    refine hK _ _ ?_
    clear hK K
    refine BigFrame.wpList_want ?hwe14 ?_
    case hwe14 => kernel_rfl
    intro K hK
    go_simp
    refine hK _ _ ?_
    clear hK K
    refine BigFrame.wpList_want ?hwe15 ?_
    case hwe15 => kernel_rfl
    intro K hK
    go_simp
    refine hK _ _ ?_
    clear hK K
    refine BigFrame.wpList_want ?hwe16 ?_
    case hwe16 => kernel_rfl
    intro K hK
    go_simp
    refine hK _ _ ?_
    clear hK K
    refine BigFrame.wpList_want ?hwe17 ?_
    case hwe17 => kernel_rfl
    intro K hK
    go_simp
    refine hK _ _ ?_
    clear hK K
    refine BigFrame.wpList_want ?hwe18 ?_
    case hwe18 => kernel_rfl
    intro K hK
    go_simp
    refine hK _ _ ?_
    clear hK K
    refine BigFrame.wpList_want ?hwe19 ?_
    case hwe19 => kernel_rfl
    intro K hK
    go_simp
    refine hK _ _ ?_
    clear hK K
    refine BigFrame.wpList_want ?hwe20 ?_
    case hwe20 => kernel_rfl
    intro K hK
    go_simp
    refine hK _ _ ?_
    clear hK K
    refine BigFrame.wpList_want ?hwe21 ?_
    case hwe21 => kernel_rfl
    intro K hK
    go_simp
    refine hK _ _ ?_
    clear hK K
    refine BigFrame.wpList_want ?hwe22 ?_
    case hwe22 => kernel_rfl
    intro K hK
    go_simp
    refine hK _ _ ?_
    clear hK K
    refine BigFrame.wpList_want ?hwe23 ?_
    case hwe23 => kernel_rfl
    intro K hK
    go_simp
    refine hK _ _ ?_
    clear hK K
    refine BigFrame.wpList_want ?hwf00 ?_
    case hwf00 => kernel_rfl
    intro K hK
    go_simp
    go_at_call 29; refine (len_nil _).mono ?_; rintro e w7 ⟨rfl, rfl⟩
    refine hK _ _ ?_
    clear hK K
    refine BigFrame.wpList_want ?hwf01 ?_
    case hwf01 => kernel_rfl
    intro K hK
    go_simp
    refine hK _ _ ?_
    clear hK K
    refine BigFrame.wpList_want ?hwf02 ?_
    case hwf02 => kernel_rfl
    intro K hK
    go_simp
    refine hK _ _ ?_
    clear hK K
    refine BigFrame.wpList_want ?hwf03 ?_
    case hwf03 => kernel_rfl
    intro K hK
    go_simp
    refine hK _ _ ?_
    clear hK K
    refine BigFrame.wpList_want ?hwf04 ?_
    case hwf04 => kernel_rfl
    intro K hK
    go_simp
    refine hK _ _ ?_
    clear hK K
    refine BigFrame.wpList_want ?hwf05 ?_
    case hwf05 => kernel_rfl
    intro K hK
    go_simp
    refine hK _ _ ?_
    clear hK K
    refine BigFrame.wpList_want ?hwf06 ?_
    case hwf06 => kernel_rfl
    intro K hK
    go_simp
    go_at_call 21; refine (HFO.out _ K7 hF6).mono ?_; rintro e w8 ⟨r, M, rfl, hM, hI, k8⟩; have hMl := is_length hI; have hpm := plain_calls M r w8 hM (by simp only [Bk.outs, List.flatMap_nil, List.length_nil] at hMl; omega); have HPM := Lib.hid hpm; have HI := Lib.hid hI; have HMl := Lib.hid hMl; have K8 := K7.trans (k8.mono K7.size (fun i hi _ => by have := K7.size; omega)); clear hpm hI hMl hM
    refine hK _ _ ?_
    clear hK K
    refine BigFrame.wpList_want ?hwf07 ?_
    case hwf07 => kernel_rfl
    intro K hK
    go_simp
    go_at_call 20; refine HPM.out.mono ?_; rintro e w9 ⟨pm, rfl, o9, k9⟩; have K9 := K8.trans (k9.mono K8.size (fun i hi _ => by have := K8.size; omega)); have O9 := Lib.hid o9; clear o9
    refine hK _ _ ?_
    clear hK K
    refine BigFrame.wpList_want ?hwf08 ?_
    case hwf08 => kernel_rfl
    intro K hK
    go_simp
    refine hK _ _ ?_
    clear hK K
    refine BigFrame.wpList_want ?hwf09 ?_
    case hwf09 => kernel_rfl
    intro K hK
    go_simp
    go_at_call 20; refine (HPL.out _ K9 hF6).mono ?_; rintro e w10 ⟨pf, rfl, o10, k10⟩; have K10 := K9.trans (k10.mono K9.size (fun i hi _ => by have := K9.size; omega)); have P10 := Lib.hid (O9.out.kept k10 (Nat.le_refl _)); have hrf := HRF.out w10 pf o10.hs hF6; have HR := Lib.hid hrf; clear hrf o10 O9
    refine hK _ _ ?_
    clear hK K
    refine BigFrame.wpList_want ?hwf10 ?_
    case hwf10 => kernel_rfl
    intro K hK
    go_simp
    go_at_call 22; refine HR.out.mono ?_; rintro e w11 ⟨r2, M2, rfl, o11, hI2, k11⟩; have K11 := K10.trans (k11.mono K10.size (fun i hi _ => by have := K10.size; omega)); have hMM : M2 = M := hI2.one HI.out; subst hMM; have hal := alike_calls M2 M2 pm r2 w11 (P10.out.kept k11 (Nat.le_refl _)).hs o11.hs (by have := HMl.out; simp only [Bk.outs, List.flatMap_nil, List.length_nil] at this; omega) (by have := HMl.out; simp only [Bk.outs, List.flatMap_nil, List.length_nil] at this; omega); rw [alikeB_refl] at hal; have HAL := Lib.hid hal; clear hal o11 hI2
    refine hK _ _ ?_
    clear hK K
    refine BigFrame.wpList_want ?hwf11 ?_
    case hwf11 => kernel_rfl
    intro K hK
    go_simp
    go_at_call 19; refine HAL.out.mono ?_; rintro e w12 ⟨rfl, k12⟩; have K12 := K11.trans (k12.mono K11.size (fun i hi _ => by have := K11.size; omega))
    refine hK _ _ ?_
    clear hK K
    refine BigFrame.wpList_want ?hwf12 ?_
    case hwf12 => kernel_rfl
    intro K hK
    go_simp
    refine hK _ _ ?_
    clear hK K
    refine BigFrame.wpList_want ?hwf13 ?_
    case hwf13 => kernel_rfl
    intro K hK
    go_simp
    refine hK _ _ ?_
    clear hK K
    go_wp2
    go_ret
    exact ⟨rfl, HOUT.out _ K12⟩
  · have hE1 : E = 0 := by rw [← HE.out, if_neg hz]
    subst hE1
    have dz : decide ((0 : Int) < (f.2.length : Int)) = true := decide_eq_true (by omega)
    have dz2 : 0 < f.2.length := by omega
    generalize f.2.length = n2 at cx dz dz2
    clear hz
    refine BigFrame.wpList_want ?hwg01 ?_
    case hwg01 => kernel_rfl
    intro K hK
    go_simp
    refine hK _ _ ?_
    clear hK K
    refine BigFrame.wpList_want ?hwg02 ?_
    case hwg02 => kernel_rfl
    intro K hK
    go_simp
    refine hK _ _ ?_
    clear hK K
    refine BigFrame.wpList_want ?hwg03 ?_
    case hwg03 => kernel_rfl
    intro K hK
    go_simp
    refine hK _ _ ?_
    clear hK K
    refine BigFrame.wpList_want ?hwg04 ?_
    case hwg04 => kernel_rfl
    intro K hK
    go_simp
    refine hK _ _ ?_
    clear hK K
    refine BigFrame.wpList_want ?hwg05 ?_
    case hwg05 => kernel_rfl
    intro K hK
    go_simp
    refine hK _ _ ?_
    clear hK K
    refine BigFrame.wpList_want ?hwg06 ?_
    case hwg06 => kernel_rfl
    intro K hK
    go_simp
    refine hK _ _ ?_
    clear hK K
    refine BigFrame.wpList_want ?hwg07 ?_
    case hwg07 => kernel_rfl
    intro K hK
    go_simp
    refine hK _ _ ?_
    clear hK K
    refine BigFrame.wpList_want ?hwg08 ?_
    case hwg08 => kernel_rfl
    intro K hK
    go_simp
    refine hK _ _ ?_
    clear hK K
    refine BigFrame.wpList_want ?hwg09 ?_
    case hwg09 => kernel_rfl
    intro K hK
    go_simp
    refine hK _ _ ?_
    clear hK K
    refine BigFrame.wpList_want ?hwg10 ?_
    case hwg10 => kernel_rfl
    intro K hK
    go_simp
    refine hK _ _ ?_
    clear hK K
    refine BigFrame.wpList_want ?hwg11 ?_
    case hwg11 => kernel_rfl
    intro K hK
    go_simp
    refine hK _ _ ?_
    clear hK K
    refine BigFrame.wpList_want ?hwg12 ?_
    case hwg12 => kernel_rfl
    intro K hK
    go_simp
    refine hK _ _ ?_
    clear hK K
    refine BigFrame.wpList_want ?hwg13 ?_
    case hwg13 => kernel_rfl
    intro K hK
    go_simp
    refine hK _ _ ?_
    clear hK K
    refine wpList_skip ?hwg14 ?_
    case hwg14 => kernel_rfl
    simp only [Act.put, List.setIfInBounds_toArray, List.set_cons_zero, List.set_cons_succ]
    refine wpList_skip ?hwg15 ?_
    case hwg15 => kernel_rfl
    simp only [Act.put, List.setIfInBounds_toArray, List.set_cons_zero, List.set_cons_succ]
    refine BigFrame.wpList_want ?hwg16 ?_
    case hwg16 => kernel_rfl
    intro K hK
    go_simp
    refine hK _ _ ?_
    clear hK K
    refine BigFrame.wpList_want ?hwg17 ?_
    case hwg17 => kernel_rfl
    intro K hK
    go_simp
    refine hK _ _ ?_
    clear hK K
    refine BigFrame.wpList_want ?hwg18 ?_
    case hwg18 => kernel_rfl
    intro K hK
    go_simp
    refine hK _ _ ?_
    clear hK K
    refine BigFrame.wpList_want ?hwg19 ?_
    case hwg19 => kernel_rfl
    intro K hK
    go_simp
    refine hK _ _ ?_
    clear hK K
    refine BigFrame.wpList_want ?hwg20 ?_
    case hwg20 => kernel_rfl
    intro K hK
    go_simp
    refine hK _ _ ?_
    clear hK K
    refine BigFrame.wpList_want ?hwg21 ?_
    case hwg21 => kernel_rfl
    intro K hK
    go_simp
    refine hK _ _ ?_
    clear hK K
    refine BigFrame.wpList_want ?hwg22 ?_
    case hwg22 => kernel_rfl
    intro K hK
    go_simp
    refine hK _ _ ?_
    clear hK K
    refine BigFrame.wpList_want ?hwg23 ?_
    case hwg23 => kernel_rfl
    intro K hK
    go_simp
    refine hK _ _ ?_
    clear hK K
    refine BigFrame.wpList_want ?hwh00 ?_
    case hwh00 => kernel_rfl
    intro K hK
    go_simp
    go_at_call 29; refine (len_nil _).mono ?_; rintro e w7 ⟨rfl, rfl⟩
    refine hK _ _ ?_
    clear hK K
    refine BigFrame.wpList_want ?hwh01 ?_
    case hwh01 => kernel_rfl
    intro K hK
    go_simp
    refine hK _ _ ?_
    clear hK K
    refine BigFrame.wpList_want ?hwh02 ?_
    case hwh02 => kernel_rfl
    intro K hK
    go_simp
    refine hK _ _ ?_
    clear hK K
    refine BigFrame.wpList_want ?hwh03 ?_
    case hwh03 => kernel_rfl
    intro K hK
    go_simp
    refine hK _ _ ?_
    clear hK K
    refine BigFrame.wpList_want ?hwh04 ?_
    case hwh04 => kernel_rfl
    intro K hK
    go_simp
    refine hK _ _ ?_
    clear hK K
    refine BigFrame.wpList_want ?hwh05 ?_
    case hwh05 => kernel_rfl
    intro K hK
    go_simp
    refine hK _ _ ?_
    clear hK K
    refine BigFrame.wpList_want ?hwh06 ?_
    case hwh06 => kernel_rfl
    intro K hK
    go_simp
    go_at_call 21; refine (HFO.out _ K7 hF6).mono ?_; rintro e w8 ⟨r, M, rfl, hM, hI, k8⟩; have hMl := is_length hI; have hpm := plain_calls M r w8 hM (by simp only [Bk.outs, List.flatMap_nil, List.length_nil] at hMl; omega); have HPM := Lib.hid hpm; have HI := Lib.hid hI; have HMl := Lib.hid hMl; have K8 := K7.trans (k8.mono K7.size (fun i hi _ => by have := K7.size; omega)); clear hpm hI hMl hM
    refine hK _ _ ?_
    clear hK K
    refine BigFrame.wpList_want ?hwh07 ?_
    case hwh07 => kernel_rfl
    intro K hK
    go_simp
    go_at_call 20; refine HPM.out.mono ?_; rintro e w9 ⟨pm, rfl, o9, k9⟩; have K9 := K8.trans (k9.mono K8.size (fun i hi _ => by have := K8.size; omega)); have O9 := Lib.hid o9; clear o9
    refine hK _ _ ?_
    clear hK K
    refine BigFrame.wpList_want ?hwh08 ?_
    case hwh08 => kernel_rfl
    intro K hK
    go_simp
    refine hK _ _ ?_
    clear hK K
    refine BigFrame.wpList_want ?hwh09 ?_
    case hwh09 => kernel_rfl
    intro K hK
    go_simp
    go_at_call 20; refine (HPL.out _ K9 hF6).mono ?_; rintro e w10 ⟨pf, rfl, o10, k10⟩; have K10 := K9.trans (k10.mono K9.size (fun i hi _ => by have := K9.size; omega)); have P10 := Lib.hid (O9.out.kept k10 (Nat.le_refl _)); have hrf := HRF.out w10 pf o10.hs hF6; have HR := Lib.hid hrf; clear hrf o10 O9
    refine hK _ _ ?_
    clear hK K
    refine BigFrame.wpList_want ?hwh10 ?_
    case hwh10 => kernel_rfl
    intro K hK
    go_simp
    go_at_call 22; refine HR.out.mono ?_; rintro e w11 ⟨r2, M2, rfl, o11, hI2, k11⟩; have K11 := K10.trans (k11.mono K10.size (fun i hi _ => by have := K10.size; omega)); have hMM : M2 = M := hI2.one HI.out; subst hMM; have hal := alike_calls M2 M2 pm r2 w11 (P10.out.kept k11 (Nat.le_refl _)).hs o11.hs (by have := HMl.out; simp only [Bk.outs, List.flatMap_nil, List.length_nil] at this; omega) (by have := HMl.out; simp only [Bk.outs, List.flatMap_nil, List.length_nil] at this; omega); rw [alikeB_refl] at hal; have HAL := Lib.hid hal; clear hal o11 hI2
    refine hK _ _ ?_
    clear hK K
    refine BigFrame.wpList_want ?hwh11 ?_
    case hwh11 => kernel_rfl
    intro K hK
    go_simp
    go_at_call 19; refine HAL.out.mono ?_; rintro e w12 ⟨rfl, k12⟩; have K12 := K11.trans (k12.mono K11.size (fun i hi _ => by have := K11.size; omega))
    refine hK _ _ ?_
    clear hK K
    refine BigFrame.wpList_want ?hwh12 ?_
    case hwh12 => kernel_rfl
    intro K hK
    go_simp
    refine hK _ _ ?_
    clear hK K
    refine BigFrame.wpList_want ?hwh13 ?_
    case hwh13 => kernel_rfl
    intro K hK
    go_simp
    refine hK _ _ ?_
    clear hK K
    go_wp2
    go_ret
    exact ⟨rfl, HOUT.out _ K12⟩

end Go.Proofs.Ytmcnmcnmcpfmiaa
