/-
  The law PrimNotes.
-/
import Derived.Test.YtohichignjjleaaPB
import Derived.Test.YtohichignjjleaaGN
import Derived.Test.YtohichignjjleaaGP
import Derived.Test.YtohichignjjleaaKD
import Derived.Test.YtohichignjjleaaGD
import Derived.Test.YtohichignjjleaaGG
import Derived.Deep.DeepCutAuto

namespace Go.Proofs.Ytohichignjjleaa
open Go.RowKit Go.Lib

set_option maxRecDepth 100000 in
set_option maxHeartbeats 51200000 in
theorem primnotes_walk (L : List Ac) (v0 : Value) (F : List (List UInt8)) (v1 : Value) (w : World) (hL : As w v0 L) (hF : Hs w v1 F) : Calls Try.prog 3 #[v0, v1] w fun e w' => e = .returned (.bool true) ∧ Kept w.heap.size w.heap.size w w' := by
  obtain ⟨_, lad, _, _, lc, rfl, _⟩ := id hL
  obtain ⟨_, fad, _, _, fc, rfl, _⟩ := id hF
  obtain ⟨ln, hln⟩ : ∃ t, t = L.length := ⟨_, rfl⟩
  obtain ⟨fn, hfn⟩ : ∃ t, t = F.length := ⟨_, rfl⟩
  rw [← hln] at hL ⊢
  rw [← hfn] at hF ⊢
  have HL := Lib.hid hL
  have HF := Lib.hid hF
  have HLN := Lib.hid hln
  have HFN := Lib.hid hfn
  have HAW := Lib.hid (fun x => prim_awake x)
  clear hL hF hln hfn
  go_enter Try.func3, Try.ntmps3
  go_upto_region 1 with fail
  by_cases hz : (ln : Int) > 40
  · have hd : decide ((ln : Int) > 40) = true := decide_eq_true hz
    clear hz
    refine wp_region_lit ?_
    refine @BigFrame.wpList_want _ _ _ _ _ _ _ ?hw131159 ?_
    case hw131159 => kernel_rfl
    intro K hK
    go_simp
    go_at_call 6
    refine (HAW.out _).mono ?_
    rintro e w1 ⟨rfl, k1⟩
    have K1 := Lib.hid k1
    clear k1
    refine hK _ _ ?_
    clear hK K
    refine @BigFrame.wpList_want _ _ _ _ _ _ _ ?hw131160 ?_
    case hw131160 => kernel_rfl
    intro K hK
    go_simp
    refine hK _ _ ?_
    clear hK K
    refine @BigFrame.wpList_want _ _ _ _ _ _ _ ?hw131161 ?_
    case hw131161 => kernel_rfl
    intro K hK
    go_simp
    refine hK _ _ ?_
    clear hK K
    refine @BigFrame.wpList_want _ _ _ _ _ _ _ ?hw131162 ?_
    case hw131162 => kernel_rfl
    intro K hK
    go_simp
    refine hK _ _ ?_
    clear hK K
    refine @BigFrame.wpList_want _ _ _ _ _ _ _ ?hw131163 ?_
    case hw131163 => kernel_rfl
    intro K hK
    go_simp
    refine hK _ _ ?_
    clear hK K
    refine @BigFrame.wpList_want _ _ _ _ _ _ _ ?hw131164 ?_
    case hw131164 => kernel_rfl
    intro K hK
    go_simp
    refine hK _ _ ?_
    clear hK K
    refine @BigFrame.wpList_want _ _ _ _ _ _ _ ?hw131165 ?_
    case hw131165 => kernel_rfl
    intro K hK
    go_simp
    refine hK _ _ ?_
    clear hK K
    refine @BigFrame.wpList_want _ _ _ _ _ _ _ ?hw131166 ?_
    case hw131166 => kernel_rfl
    intro K hK
    go_simp
    refine hK _ _ ?_
    clear hK K
    refine @wpList_skip _ _ _ _ _ _ _ ?hw131167 ?_
    case hw131167 => kernel_rfl
    simp only [Act.put, List.setIfInBounds_toArray, List.set_cons_zero, List.set_cons_succ]
    refine @wpList_skip _ _ _ _ _ _ _ ?hw131168 ?_
    case hw131168 => kernel_rfl
    simp only [Act.put, List.setIfInBounds_toArray, List.set_cons_zero, List.set_cons_succ]
    refine @wpList_skip _ _ _ _ _ _ _ ?hw131169 ?_
    case hw131169 => kernel_rfl
    simp only [Act.put, List.setIfInBounds_toArray, List.set_cons_zero, List.set_cons_succ]
    refine @BigFrame.wpList_want _ _ _ _ _ _ _ ?hw131170 ?_
    case hw131170 => kernel_rfl
    intro K hK
    go_simp
    refine hK _ _ ?_
    clear hK K
    go_upto_region 2 with fail
    refine wp_region_lit ?_
    refine @BigFrame.wpList_want _ _ _ _ _ _ _ ?hw131001 ?_
    case hw131001 => kernel_rfl
    intro K hK
    go_simp
    go_at_call 6
    refine (HAW.out _).mono ?_
    rintro e w2 ⟨rfl, k2⟩
    have K2 := Lib.hid (K1.out.onto k2)
    clear k2
    refine hK _ _ ?_
    clear hK K
    refine @BigFrame.wpList_want _ _ _ _ _ _ _ ?hw131002 ?_
    case hw131002 => kernel_rfl
    intro K hK
    go_simp
    refine hK _ _ ?_
    clear hK K
    go_wp2
    go_ret
    exact ⟨rfl, K2.out⟩
  · have hd : decide ((ln : Int) > 40) = false := decide_eq_false hz
    have HL40 := Lib.hid (show ln ≤ 40 by omega)
    clear hz
    by_cases hy : (fn : Int) > 40
    · have hd2 : decide ((fn : Int) > 40) = true := decide_eq_true hy
      clear hy
      refine wp_region_lit ?_
      refine @BigFrame.wpList_want _ _ _ _ _ _ _ ?hw131171 ?_
      case hw131171 => kernel_rfl
      intro K hK
      go_simp
      go_at_call 6
      refine (HAW.out _).mono ?_
      rintro e w1 ⟨rfl, k1⟩
      have K1 := Lib.hid k1
      clear k1
      refine hK _ _ ?_
      clear hK K
      refine @BigFrame.wpList_want _ _ _ _ _ _ _ ?hw131172 ?_
      case hw131172 => kernel_rfl
      intro K hK
      go_simp
      refine hK _ _ ?_
      clear hK K
      refine @BigFrame.wpList_want _ _ _ _ _ _ _ ?hw131173 ?_
      case hw131173 => kernel_rfl
      intro K hK
      go_simp
      refine hK _ _ ?_
      clear hK K
      refine @BigFrame.wpList_want _ _ _ _ _ _ _ ?hw131174 ?_
      case hw131174 => kernel_rfl
      intro K hK
      go_simp
      refine hK _ _ ?_
      clear hK K
      refine @BigFrame.wpList_want _ _ _ _ _ _ _ ?hw131175 ?_
      case hw131175 => kernel_rfl
      intro K hK
      go_simp
      refine hK _ _ ?_
      clear hK K
      refine @BigFrame.wpList_want _ _ _ _ _ _ _ ?hw131176 ?_
      case hw131176 => kernel_rfl
      intro K hK
      go_simp
      refine hK _ _ ?_
      clear hK K
      refine @BigFrame.wpList_want _ _ _ _ _ _ _ ?hw131177 ?_
      case hw131177 => kernel_rfl
      intro K hK
      go_simp
      refine hK _ _ ?_
      clear hK K
      refine @BigFrame.wpList_want _ _ _ _ _ _ _ ?hw131178 ?_
      case hw131178 => kernel_rfl
      intro K hK
      go_simp
      refine hK _ _ ?_
      clear hK K
      refine @BigFrame.wpList_want _ _ _ _ _ _ _ ?hw131179 ?_
      case hw131179 => kernel_rfl
      intro K hK
      go_simp
      refine hK _ _ ?_
      clear hK K
      refine @BigFrame.wpList_want _ _ _ _ _ _ _ ?hw131180 ?_
      case hw131180 => kernel_rfl
      intro K hK
      go_simp
      refine hK _ _ ?_
      clear hK K
      refine @BigFrame.wpList_want _ _ _ _ _ _ _ ?hw131181 ?_
      case hw131181 => kernel_rfl
      intro K hK
      go_simp
      refine hK _ _ ?_
      clear hK K
      refine @BigFrame.wpList_want _ _ _ _ _ _ _ ?hw131182 ?_
      case hw131182 => kernel_rfl
      intro K hK
      go_simp
      refine hK _ _ ?_
      clear hK K
      go_upto_region 2 with fail
      refine wp_region_lit ?_
      refine @BigFrame.wpList_want _ _ _ _ _ _ _ ?hw131001 ?_
      case hw131001 => kernel_rfl
      intro K hK
      go_simp
      go_at_call 6
      refine (HAW.out _).mono ?_
      rintro e w2 ⟨rfl, k2⟩
      have K2 := Lib.hid (K1.out.onto k2)
      clear k2
      refine hK _ _ ?_
      clear hK K
      refine @BigFrame.wpList_want _ _ _ _ _ _ _ ?hw131002 ?_
      case hw131002 => kernel_rfl
      intro K hK
      go_simp
      refine hK _ _ ?_
      clear hK K
      go_wp2
      go_ret
      exact ⟨rfl, K2.out⟩
    · have hd2 : decide ((fn : Int) > 40) = false := decide_eq_false hy
      have HF40 := Lib.hid (show fn ≤ 40 by omega)
      clear hy
      refine wp_region_lit ?_
      refine @BigFrame.wpList_want _ _ _ _ _ _ _ ?hw131183 ?_
      case hw131183 => kernel_rfl
      intro K hK
      go_simp
      go_at_call 6
      refine (HAW.out _).mono ?_
      rintro e w1 ⟨rfl, k1⟩
      have K1 := Lib.hid k1
      clear k1
      refine hK _ _ ?_
      clear hK K
      refine @BigFrame.wpList_want _ _ _ _ _ _ _ ?hw131184 ?_
      case hw131184 => kernel_rfl
      intro K hK
      go_simp
      refine hK _ _ ?_
      clear hK K
      refine @BigFrame.wpList_want _ _ _ _ _ _ _ ?hw131185 ?_
      case hw131185 => kernel_rfl
      intro K hK
      go_simp
      refine hK _ _ ?_
      clear hK K
      refine @BigFrame.wpList_want _ _ _ _ _ _ _ ?hw131186 ?_
      case hw131186 => kernel_rfl
      intro K hK
      go_simp
      refine hK _ _ ?_
      clear hK K
      refine @BigFrame.wpList_want _ _ _ _ _ _ _ ?hw131187 ?_
      case hw131187 => kernel_rfl
      intro K hK
      go_simp
      refine hK _ _ ?_
      clear hK K
      refine @BigFrame.wpList_want _ _ _ _ _ _ _ ?hw131188 ?_
      case hw131188 => kernel_rfl
      intro K hK
      go_simp
      refine hK _ _ ?_
      clear hK K
      refine @BigFrame.wpList_want _ _ _ _ _ _ _ ?hw131189 ?_
      case hw131189 => kernel_rfl
      intro K hK
      go_simp
      refine hK _ _ ?_
      clear hK K
      refine @BigFrame.wpList_want _ _ _ _ _ _ _ ?hw131190 ?_
      case hw131190 => kernel_rfl
      intro K hK
      go_simp
      refine hK _ _ ?_
      clear hK K
      refine @BigFrame.wpList_want _ _ _ _ _ _ _ ?hw131191 ?_
      case hw131191 => kernel_rfl
      intro K hK
      go_simp
      refine hK _ _ ?_
      clear hK K
      refine @BigFrame.wpList_want _ _ _ _ _ _ _ ?hw131192 ?_
      case hw131192 => kernel_rfl
      intro K hK
      go_simp
      refine hK _ _ ?_
      clear hK K
      refine @BigFrame.wpList_want _ _ _ _ _ _ _ ?hw131193 ?_
      case hw131193 => kernel_rfl
      intro K hK
      go_simp
      refine hK _ _ ?_
      clear hK K
      refine @BigFrame.wpList_want _ _ _ _ _ _ _ ?hw131194 ?_
      case hw131194 => kernel_rfl
      intro K hK
      go_simp
      refine hK _ _ ?_
      clear hK K
      clear hd hd2
      go_upto_region 3 with fail
      refine wp_region_lit ?_
      refine @BigFrame.wpList_want _ _ _ _ _ _ _ ?hw131003 ?_
      case hw131003 => kernel_rfl
      intro K hK
      go_simp
      refine hK _ _ ?_
      clear hK K
      go_wp2
      go_loopw [5] (fun s5 wr => ∃ i : Nat, s5 = .int .i64 (i : Int) ∧ Hid (i ≤ ln) ∧ Hid (∀ x ∈ L.take i, x.text.size ≤ 200 ∧ x.secs.length ≤ 40) ∧ wr = w1) (fun s5 _ => ln - (RowKit.intOf s5).toNat)
      case atStart => exact ⟨0, rfl, Lib.hid (Nat.zero_le _), Lib.hid (fun x hx => by simp at hx), rfl⟩
      case round =>
        obtain ⟨i, rfl, hi, HALL, hwr⟩ := hrel
        subst wr
        by_cases hlt : i < ln
        · as_aux_lemma =>
            have hlti : (i : Int) < (ln : Int) := by omega
            have hi0 : ¬ (i : Int) < 0 := by omega
            have hiL : i < L.length := by rw [← HLN.out]; exact hlt
            obtain ⟨g, o, sv, had, hg, hr, hS, hW, ha, hb, ht⟩ := (HL.out.kept K1.out).whole i hiL
            subst had
            have htk := List.take_succ_eq_append_getElem hiL
            have hx9 : ∃ x, x = L[i] := ⟨_, rfl⟩
            obtain ⟨x, hx⟩ := hx9
            rw [← hx] at hr hS ha hb htk
            obtain ⟨_, sad, _, _, scp, rfl, _⟩ := hS
            have c65 : w1.cell? ⟨g, o + i * 67 + 65, none⟩ = some (.string x.text) := hr 65 _ (actCellsOf_at x _ ha hb).2.2.2.1
            have c66 : w1.cell? ⟨g, o + i * 67 + 66, none⟩ = some (.slice sad x.secs.length scp) := hr 66 _ (actCellsOf_at x _ ha hb).2.2.2.2
            have HTK := Lib.hid htk
            have HLT := Lib.hid hlt
            obtain ⟨xt, hxt⟩ : ∃ t, t = x.text := ⟨_, rfl⟩
            rw [← hxt] at c65
            have HXT := Lib.hid hxt
            obtain ⟨sn, hsn⟩ : ∃ t, t = x.secs.length := ⟨_, rfl⟩
            rw [← hsn] at c66
            have HSN := Lib.hid hsn
            clear hr ha hb ht hg hW hx htk hlt hxt hsn hiL hi
            by_cases hz : (xt.size : Int) > 200
            · have hd : decide ((xt.size : Int) > 200) = true := decide_eq_true hz
              clear hz
              go_upto_region 6 with fail
              refine wp_region_lit ?_
              refine @BigFrame.wpList_want _ _ _ _ _ _ _ ?hw131004 ?_
              case hw131004 => kernel_rfl
              intro K hK
              go_simp
              refine hK _ _ ?_
              clear hK K
              refine @BigFrame.wpList_want _ _ _ _ _ _ _ ?hw131005 ?_
              case hw131005 => kernel_rfl
              intro K hK
              go_simp
              refine hK _ _ ?_
              clear hK K
              refine @BigFrame.wpList_want _ _ _ _ _ _ _ ?hw131006 ?_
              case hw131006 => kernel_rfl
              intro K hK
              go_simp
              refine hK _ _ ?_
              clear hK K
              refine @BigFrame.wpList_want _ _ _ _ _ _ _ ?hw131007 ?_
              case hw131007 => kernel_rfl
              intro K hK
              go_simp
              refine hK _ _ ?_
              clear hK K
              refine @BigFrame.wpList_want _ _ _ _ _ _ _ ?hw131008 ?_
              case hw131008 => kernel_rfl
              intro K hK
              go_simp
              refine hK _ _ ?_
              clear hK K
              refine @BigFrame.wpList_want _ _ _ _ _ _ _ ?hw131009 ?_
              case hw131009 => kernel_rfl
              intro K hK
              go_simp
              refine hK _ _ ?_
              clear hK K
              refine @BigFrame.wpList_want _ _ _ _ _ _ _ ?hw131010 ?_
              case hw131010 => kernel_rfl
              intro K hK
              go_simp
              refine hK _ _ ?_
              clear hK K
              refine @BigFrame.wpList_want _ _ _ _ _ _ _ ?hw131011 ?_
              case hw131011 => kernel_rfl
              intro K hK
              go_simp
              refine hK _ _ ?_
              clear hK K
              refine @wpList_skip _ _ _ _ _ _ _ ?hw131012 ?_
              case hw131012 => kernel_rfl
              simp only [Act.put, List.setIfInBounds_toArray, List.set_cons_zero, List.set_cons_succ]
              refine @wpList_skip _ _ _ _ _ _ _ ?hw131013 ?_
              case hw131013 => kernel_rfl
              simp only [Act.put, List.setIfInBounds_toArray, List.set_cons_zero, List.set_cons_succ]
              refine @wpList_skip _ _ _ _ _ _ _ ?hw131014 ?_
              case hw131014 => kernel_rfl
              simp only [Act.put, List.setIfInBounds_toArray, List.set_cons_zero, List.set_cons_succ]
              refine @wpList_skip _ _ _ _ _ _ _ ?hw131015 ?_
              case hw131015 => kernel_rfl
              simp only [Act.put, List.setIfInBounds_toArray, List.set_cons_zero, List.set_cons_succ]
              refine @wpList_skip _ _ _ _ _ _ _ ?hw131016 ?_
              case hw131016 => kernel_rfl
              simp only [Act.put, List.setIfInBounds_toArray, List.set_cons_zero, List.set_cons_succ]
              refine @wpList_skip _ _ _ _ _ _ _ ?hw131017 ?_
              case hw131017 => kernel_rfl
              simp only [Act.put, List.setIfInBounds_toArray, List.set_cons_zero, List.set_cons_succ]
              refine @wpList_skip _ _ _ _ _ _ _ ?hw131018 ?_
              case hw131018 => kernel_rfl
              simp only [Act.put, List.setIfInBounds_toArray, List.set_cons_zero, List.set_cons_succ]
              refine @BigFrame.wpList_want _ _ _ _ _ _ _ ?hw131019 ?_
              case hw131019 => kernel_rfl
              intro K hK
              go_simp
              refine hK _ _ ?_
              clear hK K
              go_wp2
              go_ret
              exact ⟨rfl, K1.out⟩
            · have hd : decide ((xt.size : Int) > 200) = false := decide_eq_false hz
              have HZ1 := Lib.hid (show xt.size ≤ 200 by omega)
              clear hz
              by_cases hy : (sn : Int) > 40
              · have hd2 : decide ((sn : Int) > 40) = true := decide_eq_true hy
                clear hy
                go_upto_region 6 with fail
                refine wp_region_lit ?_
                refine @BigFrame.wpList_want _ _ _ _ _ _ _ ?hw131020 ?_
                case hw131020 => kernel_rfl
                intro K hK
                go_simp
                refine hK _ _ ?_
                clear hK K
                refine @BigFrame.wpList_want _ _ _ _ _ _ _ ?hw131021 ?_
                case hw131021 => kernel_rfl
                intro K hK
                go_simp
                refine hK _ _ ?_
                clear hK K
                refine @BigFrame.wpList_want _ _ _ _ _ _ _ ?hw131022 ?_
                case hw131022 => kernel_rfl
                intro K hK
                go_simp
                refine hK _ _ ?_
                clear hK K
                refine @BigFrame.wpList_want _ _ _ _ _ _ _ ?hw131023 ?_
                case hw131023 => kernel_rfl
                intro K hK
                go_simp
                refine hK _ _ ?_
                clear hK K
                refine @BigFrame.wpList_want _ _ _ _ _ _ _ ?hw131024 ?_
                case hw131024 => kernel_rfl
                intro K hK
                go_simp
                refine hK _ _ ?_
                clear hK K
                refine @BigFrame.wpList_want _ _ _ _ _ _ _ ?hw131025 ?_
                case hw131025 => kernel_rfl
                intro K hK
                go_simp
                refine hK _ _ ?_
                clear hK K
                refine @BigFrame.wpList_want _ _ _ _ _ _ _ ?hw131026 ?_
                case hw131026 => kernel_rfl
                intro K hK
                go_simp
                refine hK _ _ ?_
                clear hK K
                refine @BigFrame.wpList_want _ _ _ _ _ _ _ ?hw131027 ?_
                case hw131027 => kernel_rfl
                intro K hK
                go_simp
                refine hK _ _ ?_
                clear hK K
                refine @BigFrame.wpList_want _ _ _ _ _ _ _ ?hw131028 ?_
                case hw131028 => kernel_rfl
                intro K hK
                go_simp
                refine hK _ _ ?_
                clear hK K
                refine @BigFrame.wpList_want _ _ _ _ _ _ _ ?hw131029 ?_
                case hw131029 => kernel_rfl
                intro K hK
                go_simp
                refine hK _ _ ?_
                clear hK K
                refine @BigFrame.wpList_want _ _ _ _ _ _ _ ?hw131030 ?_
                case hw131030 => kernel_rfl
                intro K hK
                go_simp
                refine hK _ _ ?_
                clear hK K
                refine @BigFrame.wpList_want _ _ _ _ _ _ _ ?hw131031 ?_
                case hw131031 => kernel_rfl
                intro K hK
                go_simp
                refine hK _ _ ?_
                clear hK K
                refine @BigFrame.wpList_want _ _ _ _ _ _ _ ?hw131032 ?_
                case hw131032 => kernel_rfl
                intro K hK
                go_simp
                refine hK _ _ ?_
                clear hK K
                refine @BigFrame.wpList_want _ _ _ _ _ _ _ ?hw131033 ?_
                case hw131033 => kernel_rfl
                intro K hK
                go_simp
                refine hK _ _ ?_
                clear hK K
                refine @BigFrame.wpList_want _ _ _ _ _ _ _ ?hw131034 ?_
                case hw131034 => kernel_rfl
                intro K hK
                go_simp
                refine hK _ _ ?_
                clear hK K
                refine @BigFrame.wpList_want _ _ _ _ _ _ _ ?hw131035 ?_
                case hw131035 => kernel_rfl
                intro K hK
                go_simp
                refine hK _ _ ?_
                clear hK K
                go_wp2
                go_ret
                exact ⟨rfl, K1.out⟩
              · have hd2 : decide ((sn : Int) > 40) = false := decide_eq_false hy
                have HZ2 := Lib.hid (show sn ≤ 40 by omega)
                clear hy
                go_upto_region 6 with fail
                refine wp_region_lit ?_
                refine @BigFrame.wpList_want _ _ _ _ _ _ _ ?hw131036 ?_
                case hw131036 => kernel_rfl
                intro K hK
                go_simp
                refine hK _ _ ?_
                clear hK K
                refine @BigFrame.wpList_want _ _ _ _ _ _ _ ?hw131037 ?_
                case hw131037 => kernel_rfl
                intro K hK
                go_simp
                refine hK _ _ ?_
                clear hK K
                refine @BigFrame.wpList_want _ _ _ _ _ _ _ ?hw131038 ?_
                case hw131038 => kernel_rfl
                intro K hK
                go_simp
                refine hK _ _ ?_
                clear hK K
                refine @BigFrame.wpList_want _ _ _ _ _ _ _ ?hw131039 ?_
                case hw131039 => kernel_rfl
                intro K hK
                go_simp
                refine hK _ _ ?_
                clear hK K
                refine @BigFrame.wpList_want _ _ _ _ _ _ _ ?hw131040 ?_
                case hw131040 => kernel_rfl
                intro K hK
                go_simp
                refine hK _ _ ?_
                clear hK K
                refine @BigFrame.wpList_want _ _ _ _ _ _ _ ?hw131041 ?_
                case hw131041 => kernel_rfl
                intro K hK
                go_simp
                refine hK _ _ ?_
                clear hK K
                refine @BigFrame.wpList_want _ _ _ _ _ _ _ ?hw131042 ?_
                case hw131042 => kernel_rfl
                intro K hK
                go_simp
                refine hK _ _ ?_
                clear hK K
                refine @BigFrame.wpList_want _ _ _ _ _ _ _ ?hw131043 ?_
                case hw131043 => kernel_rfl
                intro K hK
                go_simp
                refine hK _ _ ?_
                clear hK K
                refine @BigFrame.wpList_want _ _ _ _ _ _ _ ?hw131044 ?_
                case hw131044 => kernel_rfl
                intro K hK
                go_simp
                refine hK _ _ ?_
                clear hK K
                refine @BigFrame.wpList_want _ _ _ _ _ _ _ ?hw131045 ?_
                case hw131045 => kernel_rfl
                intro K hK
                go_simp
                refine hK _ _ ?_
                clear hK K
                refine @BigFrame.wpList_want _ _ _ _ _ _ _ ?hw131046 ?_
                case hw131046 => kernel_rfl
                intro K hK
                go_simp
                refine hK _ _ ?_
                clear hK K
                refine @BigFrame.wpList_want _ _ _ _ _ _ _ ?hw131047 ?_
                case hw131047 => kernel_rfl
                intro K hK
                go_simp
                refine hK _ _ ?_
                clear hK K
                refine @BigFrame.wpList_want _ _ _ _ _ _ _ ?hw131048 ?_
                case hw131048 => kernel_rfl
                intro K hK
                go_simp
                refine hK _ _ ?_
                clear hK K
                refine @BigFrame.wpList_want _ _ _ _ _ _ _ ?hw131049 ?_
                case hw131049 => kernel_rfl
                intro K hK
                go_simp
                refine hK _ _ ?_
                clear hK K
                refine @BigFrame.wpList_want _ _ _ _ _ _ _ ?hw131050 ?_
                case hw131050 => kernel_rfl
                intro K hK
                go_simp
                refine hK _ _ ?_
                clear hK K
                refine @BigFrame.wpList_want _ _ _ _ _ _ _ ?hw131051 ?_
                case hw131051 => kernel_rfl
                intro K hK
                go_simp
                refine hK _ _ ?_
                clear hK K
                clear hd hd2 c65 c66
                have h40 := HL40.out
                have hi9 := HLT.out
                go_wp2
                go_roundw
                case rel => exact ⟨i + 1, (by go_num), Lib.hid HLT.out, Lib.hid (fun y hy => by
                  rw [HTK.out] at hy
                  rcases List.mem_append.1 hy with h | h
                  · exact HALL.out y h
                  · rw [List.mem_singleton.1 h, ← HXT.out, ← HSN.out]
                    exact ⟨HZ1.out, HZ2.out⟩), trivial⟩
                case measure => have := HLT.out; simp [RowKit.intOf]; omega
        · have hnl : ¬ (i : Int) < (ln : Int) := by omega
          have HALL2 : Hid (∀ x ∈ L, x.text.size ≤ 200 ∧ x.secs.length ≤ 40) := Lib.hid (fun x hx => HALL.out x (by
            have e := hi.out
            rw [List.take_of_length_le (by rw [← HLN.out]; omega)]
            exact hx))
          clear hlt hi HALL
          as_aux_lemma =>
            go_upto_region 8 with fail
            refine wp_region_lit ?_
            refine @BigFrame.wpList_want _ _ _ _ _ _ _ ?hw131053 ?_
            case hw131053 => kernel_rfl
            intro K hK
            go_simp
            go_at_call 7
            refine (new_book w1).mono ?_
            rintro e w3 ⟨bb, S0, rfl, hB, k3⟩
            have K3 := Lib.hid (K1.out.onto k3)
            have B3 : Hid (InBook w3 w1.heap.size bb [] 0) := Lib.hid ⟨0, Nat.le_refl _, S0, hB⟩
            have S3 := Lib.hid k3.size
            have W3 := Lib.hid K1.out.size
            clear hB k3
            generalize w1.heap.size = b2 at B3 S3 W3
            refine hK _ _ ?_
            clear hK K
            refine @BigFrame.wpList_want _ _ _ _ _ _ _ ?hw131054 ?_
            case hw131054 => kernel_rfl
            intro K hK
            go_simp
            refine hK _ _ ?_
            clear hK K
            go_upto_region 10 with fail
            refine wp_region_lit ?_
            refine @wpL_sliceN _ _ _ _ _ _ _ _ ?hw131052 32 0 _ rfl #[] (by simp) _ (build_nn0 w3) ?_
            case hw131052 => kernel_rfl
            simp only [Act.put, List.setIfInBounds_toArray, List.set_cons_zero, List.set_cons_succ]
            have kn : Kept w3.heap.size w3.heap.size w3 (w3.alloc (.cells #[] 31)) := (Kept.refl _ _ _).alloc (Nat.le_refl _) _
            have N4 : Hid (Pn w b2 bb 0 [] (w3.alloc (.cells #[] 31)) (.slice (some ⟨w3.heap.size, 0, none⟩) 0 0) []) := Lib.hid ⟨K3.out.onto kn, B3.out.kept kn, own_nn0 w3 b2 S3.out, W3.out, Nat.le_trans S3.out kn.size⟩
            clear kn B3 K3 S3 W3
            generalize w3.alloc (.cells #[] 31) = w4 at N4 ⊢
            generalize w3.heap.size = nb at N4 ⊢
            refine @BigFrame.wpList_want _ _ _ _ _ _ _ ?hw131055 ?_
            case hw131055 => kernel_rfl
            intro K hK
            go_simp
            refine hK _ _ ?_
            clear hK K
            go_upto_region 11 with fail
            refine wp_region_lit ?_
            refine @BigFrame.wpList_want _ _ _ _ _ _ _ ?hw131056 ?_
            case hw131056 => kernel_rfl
            intro K hK
            go_simp
            refine hK _ _ ?_
            clear hK K
            go_wp2
            go_loopw [8, 9] (fun s8 s9 wr => ∃ i : Nat, ∃ v, s8 = v ∧ s9 = .int .i64 (i : Int) ∧ Hid (i ≤ ln) ∧ Hid (Pn w b2 bb (9 * i) (Pm.noted [] (L.take i)) wr v ((L.take i).map Pm.facts))) (fun _ s9 _ => ln - (RowKit.intOf s9).toNat)
            case atStart => exact ⟨0, _, rfl, rfl, Lib.hid (Nat.zero_le _), N4⟩
            case round =>
              obtain ⟨i, nv, rfl, rfl, hi, N⟩ := hrel
              by_cases hlt : i < ln
              · as_aux_lemma =>
                  have hlti : (i : Int) < (ln : Int) := by omega
                  have hi0 : ¬ (i : Int) < 0 := by omega
                  have hiL : i < L.length := by rw [← HLN.out]; exact hlt
                  have h40 : ln ≤ 40 := HL40.out
                  obtain ⟨g, o, sv, had, hg, hr, hS, hW, ha, hb, ht⟩ := HL.out.whole i hiL
                  subst had
                  have htk := Pm.facts_map L i hiL
                  have hmo := Pm.noted_more L i hiL
                  have hfew := Pm.noted_few (L.take i) (fun x hx => (HALL2.out x (List.mem_of_mem_take hx)).2)
                  have hin : (L.take i).length ≤ i := List.length_take_le _ _
                  have hsx := HALL2.out L[i] (List.getElem_mem hiL)
                  obtain ⟨x, hx⟩ : ∃ x, x = L[i] := ⟨_, rfl⟩
                  rw [← hx] at hr hS ha hb htk hmo hsx ht
                  obtain ⟨gs, hgs⟩ : ∃ t, t = Pm.noted [] (L.take i) := ⟨_, rfl⟩
                  obtain ⟨LL, hLL⟩ : ∃ t, t = (L.take i).map Pm.facts := ⟨_, rfl⟩
                  rw [← hgs] at hmo hfew
                  rw [← hLL] at htk
                  have hrm : MildK 9 gs (9 * i) := ⟨by omega, by omega, fun f hf => by have := hfew.2 f hf; omega⟩
                  have hLLl : LL.length ≤ 40 := by rw [hLL, List.length_map]; omega
                  have HSV := Lib.hid (fun (u : World) (k : Kept w.heap.size w.heap.size w u) => hS.kept k)
                  obtain ⟨_, sad, sg, so, scp, rfl, _⟩ := id hS
                  have HSW := Lib.hid hW
                  have HXS := Lib.hid hsx
                  have hrk := rangeAt_kept N.out.kp hr hg (Nat.ne_of_lt hg)
                  have HAT0 := Lib.hid (fun (u : World) (b : Nat) (h : u.heap[b]? = some (.cells (actCellsOf x (.slice sad x.secs.length scp)).toArray 28 (0, 0))) => act_at ha hb h)
                  have hxl : (actCellsOf x (.slice sad x.secs.length scp)).length = 67 := actCellsOf_length _ _ ha hb
                  have HRK := Lib.hid hrk
                  have HXI0 := Lib.hid (show (Try.prog.info? 28).map (·.size) = some (actCellsOf x (.slice sad x.secs.length scp)).length by rw [actInfo, hxl])
                  have HXI := Lib.hid (show (Try.prog.info? 28).map (·.size) = some (actCellsOf x (.slice sad x.secs.length scp)).toArray.size by rw [actInfo, List.size_toArray, hxl])
                  have HXZ := Lib.hid (show zeroAct.size = (actCellsOf x (.slice sad x.secs.length scp)).toArray.size by rw [zeroAct_size, List.size_toArray, hxl])
                  have HXA := Lib.hid (actCellsOf_all x sad x.secs.length scp)
                  have N0 : Hid (Pn w b2 bb (9 * i) gs wr u8 LL) := Lib.hid (by rw [hgs, hLL]; exact N.out)
                  have HMO := Lib.hid hmo
                  have HTK := Lib.hid htk
                  have HRM := Lib.hid hrm
                  have HLL := Lib.hid hLLl
                  have HLT := Lib.hid hlt
                  have HA32 := Lib.hid ha
                  have HB32 := Lib.hid hb
                  obtain ⟨XL, hXL⟩ : ∃ t, t = actCellsOf x (.slice sad x.secs.length scp) := ⟨_, rfl⟩
                  rw [← hXL] at HAT0 HRK HXI0 HXI HXZ HXA
                  clear hr hS hW ha hb ht hg htk hmo hfew hin hx hgs hLL hrm hLLl hrk hxl hXL hlt hi hiL hsx N h40 N4
                  obtain ⟨dd, hdd⟩ : ∃ t, t = x.kind.tmod 5 := ⟨_, rfl⟩
                  have HDD := Lib.hid hdd
                  obtain ⟨kd, hkd⟩ : ∃ t, t = x.kind := ⟨_, rfl⟩
                  rw [← hkd] at hdd
                  have HKD := Lib.hid hkd
                  clear hkd
                  obtain ⟨nk, hnk⟩ : ∃ t, t = 9 * i := ⟨_, rfl⟩
                  rw [← hnk] at N0 HRM
                  have HNK := Lib.hid hnk
                  clear hnk
                  go_upto_region 14 with fail
                  refine wp_region_lit ?_
                  refine @BigFrame.wpList_want _ _ _ _ _ _ _ ?hw131058 ?_
                  case hw131058 => kernel_rfl
                  intro K hK
                  go_simp
                  refine hK _ _ ?_
                  clear hK K
                  refine @BigFrame.wpList_want _ _ _ _ _ _ _ ?hw131059 ?_
                  case hw131059 => kernel_rfl
                  intro K hK
                  go_simp
                  refine hK _ _ ?_
                  clear hK K
                  refine @BigFrame.wpList_want _ _ _ _ _ _ _ ?hw131060 ?_
                  case hw131060 => kernel_rfl
                  intro K hK
                  go_simp
                  refine hK _ _ ?_
                  clear hK K
                  refine wpList_load_mid rfl 28 (.tmp 61) rfl g (o + i * 67) rfl XL _ HRK.out Try.underlying28 rfl HXI0.out ?_
                  simp only [Act.put, List.setIfInBounds_toArray, List.set_cons_zero, List.set_cons_succ]
                  refine @wpL_alloc _ _ _ _ _ _ _ _ ?hw131061 28 rfl _ (alloc_act5 _) ?_
                  case hw131061 => kernel_rfl
                  simp only [Act.put, List.setIfInBounds_toArray, List.set_cons_zero, List.set_cons_succ]
                  refine wpList_store_row rfl 28 _ _ rfl (wr.heap.size) XL.toArray rfl rfl 28 zeroAct (heap_new _ _) HXI.out HXZ.out HXA.out ?_
                  simp only [Act.put]
                  rw [World.setRow_alloc_new]
                  have kn : Kept wr.heap.size wr.heap.size wr (wr.alloc (.cells XL.toArray 28)) := (Kept.refl _ _ _).alloc (Nat.le_refl _) _
                  have RX := Lib.hid (heap_new wr (.cells XL.toArray 28))
                  have N14 := Lib.hid (N0.out.kept kn)
                  clear kn N0 HRK HXI0 HXI HXZ HXA
                  obtain ⟨XC, hXC⟩ : ∃ t, t = XL.toArray := ⟨_, rfl⟩
                  rw [← hXC] at HAT0 RX N14 ⊢
                  clear hXC
                  generalize wr.alloc (.cells XC 28) = w14 at RX N14 ⊢
                  generalize wr.heap.size = xb at RX ⊢
                  have HAT := Lib.hid (fun (u : World) (h : u.heap[xb]? = some (.cells XC 28 (0, 0))) => HAT0.out u xb h)
                  have c0 : w14.cell? ⟨xb, 0, none⟩ = some (.int .u8 kd) := by rw [HKD.out]; exact (HAT.out w14 RX.out).kind
                  have hrem : kd.tmod 5 = dd := hdd.symm
                  clear hdd HAT0
                  go_upto_region 15 with fail
                  refine wp_region_lit ?_
                  refine @BigFrame.wpList_want _ _ _ _ _ _ _ ?hw131062 ?_
                  case hw131062 => kernel_rfl
                  intro K hK
                  go_simp
                  refine hK _ _ ?_
                  clear hK K
                  go_upto_region 16 with fail
                  refine wp_region_lit ?_
                  refine @BigFrame.wpList_want _ _ _ _ _ _ _ ?hw131063 ?_
                  case hw131063 => kernel_rfl
                  intro K hK
                  go_simp
                  refine hK _ _ ?_
                  clear hK K
                  refine @BigFrame.wpList_want _ _ _ _ _ _ _ ?hw131064 ?_
                  case hw131064 => kernel_rfl
                  intro K hK
                  go_simp
                  refine hK _ _ ?_
                  clear hK K
                  refine @BigFrame.wpList_want _ _ _ _ _ _ _ ?hw131065 ?_
                  case hw131065 => kernel_rfl
                  intro K hK
                  go_simp
                  refine hK _ _ ?_
                  clear hK K
                  clear c0 hrem
                  have HLA := Lib.hid (fun (u : World) (h : u.heap[xb]? = some (.cells XC 28 (0, 0))) => (show (loadVar 26 ⟨xb, 1, none⟩).run Try.prog u = .ok (.agg (bcells x.a).toArray) u from run_loadVar_mid u xb 1 26 (bcells x.a) _ (HAT.out u h).a Try.underlying26 rfl (by rw [shaInfo30, bcells_length, HA32.out])))
                  have HLB := Lib.hid (fun (u : World) (h : u.heap[xb]? = some (.cells XC 28 (0, 0))) => (show (loadVar 26 ⟨xb, 33, none⟩).run Try.prog u = .ok (.agg (bcells x.b).toArray) u from run_loadVar_mid u xb 33 26 (bcells x.b) _ (HAT.out u h).b Try.underlying26 rfl (by rw [shaInfo30, bcells_length, HB32.out])))
                  obtain ⟨FX, hFX⟩ : ∃ t, t = Pm.facts x := ⟨_, rfl⟩
                  obtain ⟨GX, hGX⟩ : ∃ t, t = FX.foldl Bk.note gs := ⟨_, rfl⟩
                  have HFX := Lib.hid hFX
                  have HGX := Lib.hid hGX
                  have hfx : Pm.facts x = (if dd = 0 then [([x.a], [Mc.derive x.a x.text.data.toList []])] else if dd = 1 then [([x.a, x.b], [Mc.code x.a x.b])] else if dd = 2 then [([x.a], [Pm.mark (Pm.pub x.a)])] else if dd = 3 then [([x.a], x.secs)] else if dd = 4 then [([Pm.mark (Pm.pub x.a)], [Pm.kem (Pm.pub x.a) x.b]), ([x.b], [Pm.kem (Pm.pub x.a) x.b]), ([Pm.kem (Pm.pub x.a) x.b], x.secs)] else []) := by rw [HDD.out]; rfl
                  rw [← hFX] at hfx
                  have HFD := Lib.hid hfx
                  clear hfx hFX hGX HDD HKD
                  obtain ⟨sn, hsn⟩ : ∃ t, t = x.secs.length := ⟨_, rfl⟩
                  rw [← hsn] at HSV HSW
                  have HSN := Lib.hid hsn.symm
                  have HS40 := Lib.hid (show sn ≤ 40 by rw [hsn]; exact HXS.out.2)
                  have HT200 := Lib.hid HXS.out.1
                  clear hsn HXS
                  obtain ⟨i0, z0, hi0, hz0, hzs0, hs0, hb0⟩ := book_info
                  have HI0 := Lib.hid hi0
                  have HZ0 := Lib.hid hz0
                  have HS0 := Lib.hid hs0
                  obtain ⟨iF, zF, hiF, hzF, hzsF, hsF⟩ := fact_info
                  have HIF := Lib.hid hiF
                  have HZF := Lib.hid hzF
                  have HSF := Lib.hid hsF
                  clear hi0 hz0 hzs0 hs0 hb0 hiF hzF hzsF hsF
                  go_upto_block 4 with fail
                  go_cut [11] (fun s11 wx => ∃ v : Value, s11 = v ∧ Hid (OwnF wx 0 v FX) ∧ Hid (Pn w b2 bb (nk + 9) GX wx u8 LL))
                  case first =>
                    skip
                    by_cases hq0 : dd = 0
                    · as_aux_lemma =>
                        have hb0 : (dd == 0) = true := by simp [hq0]
                        have hfx := HFD.out
                        have hgx := HGX.out
                        rw [if_pos hq0] at hfx
                        rw [hfx] at hgx
                        simp only [List.foldl_cons, List.foldl_nil] at hgx
                        clear hq0
                        obtain ⟨m, hm⟩ : ∃ t, t = Mc.derive x.a x.text.data.toList [] := ⟨_, rfl⟩
                        have hm32 : m.length = 32 := by rw [hm]; exact Mc.derive_length _ _ _
                        have HDER := Lib.hid (fun (u : World) (hB : InBook u b2 bb gs nk) (hb : b2 ≤ u.heap.size) => derive_b5 b2 bb nk gs x.a HA32.out x.text ⟨#[]⟩ (by have := HT200.out; omega) (by decide) u hB hb HRM.out.mild)
                        have e0 : (⟨#[]⟩ : ByteArray).data.toList = [] := rfl
                        rw [e0, ← hm] at HDER
                        rw [← hm] at hfx hgx
                        clear e0
                        have HOac := Lib.hid (fun (u : World) (q : Nat) (h : u.heap[q]? = some (.cells (bcells x.a).toArray 25 (0, 0))) => own_one5 HA32.out h)
                        have HZac := Lib.hid (show (bcells x.a).toArray.size = 32 by rw [List.size_toArray, bcells_length, HA32.out])
                        have HOmc := Lib.hid (fun (u : World) (q : Nat) (h : u.heap[q]? = some (.cells (bcells m).toArray 25 (0, 0))) => own_one5 hm32 h)
                        have HZmc := Lib.hid (show (bcells m).toArray.size = 32 by rw [List.size_toArray, bcells_length, hm32])
                        obtain ⟨ac, hac⟩ : ∃ t, t = (bcells x.a).toArray := ⟨_, rfl⟩
                        rw [← hac] at HOac HZac HDER HLA
                        clear hac
                        obtain ⟨mc, hmc⟩ : ∃ t, t = (bcells m).toArray := ⟨_, rfl⟩
                        rw [← hmc] at HOmc HZmc HDER
                        clear hmc
                        obtain ⟨xt, hxt⟩ : ∃ t, t = x.text := ⟨_, rfl⟩
                        have HXT := Lib.hid (fun (u : World) (h : u.heap[xb]? = some (.cells XC 28 (0, 0))) => (show u.cell? ⟨xb, 65, none⟩ = some (.string xt) by rw [hxt]; exact (HAT.out u h).text))
                        rw [← hxt] at HDER
                        clear hxt hm hm32
                        have kd0 : Kept w14.heap.size w14.heap.size w14 w14.drew := (Kept.refl _ _ _).drew
                        have ND := Lib.hid (N14.out.kept kd0)
                        have RD := Lib.hid (row_kept RX.out kd0)
                        have HB2 := Lib.hid ND.out.hb2
                        clear kd0
                        go_upto_region 17 with fail
                        refine wp_region_lit ?_
                        refine @BigFrame.wpList_want _ _ _ _ _ _ _ ?hw131070 ?_
                        case hw131070 => kernel_rfl
                        intro K hK
                        go_simp
                        refine hK _ _ ?_
                        clear hK K
                        refine @BigFrame.wpList_want _ _ _ _ _ _ _ ?hw131071 ?_
                        case hw131071 => kernel_rfl
                        intro K hK
                        go_simp
                        refine hK _ _ ?_
                        clear hK K
                        go_upto_region 18 with fail
                        refine wp_region_noPanic ?_
                        refine wp_region_held_drew (S := fun u => u.heap[xb]? = some (.cells XC 28 (0, 0))) (by kernel_rfl) (RD.out) (fun hH => ?_)
                        generalize w14.drew = wd at ND RD HB2 hH ⊢
                        refine wpAnyH_take_ex (i := 0) 68 rfl rfl (by kernel_rfl) (by kernel_rfl) (by kernel_rfl) (fun _ _ _ _ h => h) (by kernel_rfl) hH ?_
                        apply Exists.intro
                        apply And.intro
                        · intro w9 _
                          go_simp
                          first | done | rfl
                        simp only [List.setIfInBounds_toArray, List.set_cons_zero, List.set_cons_succ]
                        refine wpAnyH_take_ex (i := 1) 69 rfl rfl (by kernel_rfl) (by kernel_rfl) (by kernel_rfl) (fun _ _ _ _ h => h) (by kernel_rfl) hH ?_
                        apply Exists.intro
                        apply And.intro
                        · intro w9 _
                          go_simp
                          first | done | rfl
                        simp only [List.setIfInBounds_toArray, List.set_cons_zero, List.set_cons_succ]
                        refine wpAnyH_take_ex (i := 2) 70 rfl rfl (by kernel_rfl) (by kernel_rfl) (by kernel_rfl) (fun _ _ _ _ h => h) (by kernel_rfl) hH ?_
                        apply Exists.intro
                        apply And.intro
                        · intro w9 _
                          go_simp
                          first | done | rfl
                        simp only [List.setIfInBounds_toArray, List.set_cons_zero, List.set_cons_succ]
                        refine wpAnyH_take_at (i := 3) 71 (.agg ac) rfl rfl (by kernel_rfl) (by kernel_rfl) (by kernel_rfl) (fun _ _ _ h => h) (yieldsIf_load_known (by kernel_rfl) 26 _ rfl (xb) (1) rfl (.agg ac) (fun w9 h9 => HLA.out w9 h9)) hH ?_
                        simp only [List.setIfInBounds_toArray, List.set_cons_zero, List.set_cons_succ]
                        refine wpAnyH_take_ex (i := 4) 72 rfl rfl (by kernel_rfl) (by kernel_rfl) (by kernel_rfl) (fun _ _ _ _ h => h) (by kernel_rfl) hH ?_
                        apply Exists.intro
                        apply And.intro
                        · intro w9 _
                          go_simp
                          first | done | rfl
                        simp only [List.setIfInBounds_toArray, List.set_cons_zero, List.set_cons_succ]
                        refine wpAnyH_take_ex (i := 5) 73 rfl rfl (by kernel_rfl) (by kernel_rfl) (by kernel_rfl) (fun _ _ _ _ h => h) (by kernel_rfl) hH ?_
                        apply Exists.intro
                        apply And.intro
                        · intro w9 h9
                          have c9 := HXT.out w9 h9
                          go_simp
                          first | done | rfl
                        simp only [List.setIfInBounds_toArray, List.set_cons_zero, List.set_cons_succ]
                        refine wpAnyH_take_ex (i := 8) 76 rfl rfl (by kernel_rfl) (by kernel_rfl) (by kernel_rfl) (fun _ _ _ _ h => h) (by kernel_rfl) hH ?_
                        apply Exists.intro
                        apply And.intro
                        · intro w9 _
                          go_simp
                          first | done | rfl
                        simp only [List.setIfInBounds_toArray, List.set_cons_zero, List.set_cons_succ]
                        refine wpAnyH_take_at (i := 9) 77 (.agg ac) rfl rfl (by kernel_rfl) (by kernel_rfl) (by kernel_rfl) (fun _ _ _ h => h) (yieldsIf_load_known (by kernel_rfl) 26 _ rfl (xb) (1) rfl (.agg ac) (fun w9 h9 => HLA.out w9 h9)) hH ?_
                        simp only [List.setIfInBounds_toArray, List.set_cons_zero, List.set_cons_succ]
                        refine wpAnyH_each 6 (fun u u' => Kept u.heap.size u.heap.size u u') (BkFr b2) (fun z u => match z with | true => InBook u b2 bb (Bk.note gs ([x.a], [m])) (nk + 3) | false => InBook u b2 bb gs nk) (fun i v u => (ykAt [(6, .val (.agg mc)), (7, .own ([m])), (10, .own ([x.a])), (11, .fval (([x.a], [m]))), (12, .frow ([([x.a], [m])])), (13, .ownf ([([x.a], [m])])), (14, .ownf ([([x.a], [m])]))] i).at v u) [6, 7, 10, 11, 12, 13, 14] [(6, 74), (7, 75), (10, 78), (11, 79), (12, 80), (13, 81), (14, 11)] (by as_aux_lemma => kernel_rfl) (by as_aux_lemma => kernel_rfl) (by as_aux_lemma => kernel_rfl) (by as_aux_lemma => kernel_rfl) (by as_aux_lemma => kernel_rfl) (by as_aux_lemma => kernel_rfl) NoPanic.not (fun u u' h k => BkFr.ofKept (h.base HB2.out) k) (fun u u' h k => h.trans k) (fun z u u' _ h k => by cases z <;> exact InBook.kept h k) (fun i v u u' _ h k => YK.bk h k) (fun u h => h.oth _ _ _ _ RD.out (by decide) (by decide) (by decide)) (BkFr.refl _ _) (ND.out.bk) ?_ ?_
                        · refine AllFree.turn [] rfl (by as_aux_lemma => kernel_rfl) (fun V u hu hz hy K hK => ?_) ?_
                          · as_aux_lemma =>
                              simp only [putAll, List.foldl, Act.put, List.setIfInBounds_toArray, List.set_cons_zero, List.set_cons_succ, List.getElem_toArray, List.getElem_cons_succ, List.getElem_cons_zero] at hK ⊢
                              have HU := Lib.hid hu
                              clear hu hy
                              have hz1 : InBook u b2 bb gs nk := hz
                              clear hz
                              have HZ1 := Lib.hid hz1
                              clear hz1
                              go_simp
                              go_wp2_with (go_at_call 9; refine (HDER.out u HZ1.out (HU.out.base HB2.out)).mono ?_; rintro e u2 ⟨rfl, q2, f2⟩)
                              exact hK.out _ _ (⟨_, rfl, ⟨f2, q2⟩, rfl⟩)
                          refine AllFree.cons [(6, 74)] rfl (by as_aux_lemma => kernel_rfl) (by as_aux_lemma => kernel_rfl) (fun V z u hu hz hy K hK => ?_) ?_
                          · as_aux_lemma =>
                              simp only [putAll, List.foldl, Act.put, List.setIfInBounds_toArray, List.set_cons_zero, List.set_cons_succ, List.getElem_toArray, List.getElem_cons_succ, List.getElem_cons_zero] at hK ⊢
                              have y74 : (V 74) = .agg mc := hy (6, 74) (by simp)
                              generalize V 74 = v74 at y74 hK ⊢
                              have HU := Lib.hid hu
                              clear hu hy
                              clear hz
                              subst y74
                              refine wp_build_one _ 33 25 rfl i0 z0 Try.underlying33 HI0.out HZ0.out mc rfl (by rw [HS0.out]; exact HZmc.out) (by rw [HS0.out]; decide) (by rw [HS0.out]; decide) ?_
                              simp only [Act.put, List.setIfInBounds_toArray, List.set_cons_zero, List.set_cons_succ]
                              exact hK.out _ _ ⟨_, rfl, (Kept.refl _ _ _).alloc (Nat.le_refl _) _, HOmc.out _ _ (heap_new _ _)⟩
                          refine AllFree.cons [] rfl (by as_aux_lemma => kernel_rfl) (by as_aux_lemma => kernel_rfl) (fun V z u hu hz hy K hK => ?_) ?_
                          · as_aux_lemma =>
                              simp only [putAll, List.foldl, Act.put, List.setIfInBounds_toArray, List.set_cons_zero, List.set_cons_succ, List.getElem_toArray, List.getElem_cons_succ, List.getElem_cons_zero] at hK ⊢
                              have HU := Lib.hid hu
                              clear hu hy
                              clear hz
                              refine wp_build_one _ 33 25 rfl i0 z0 Try.underlying33 HI0.out HZ0.out ac rfl (by rw [HS0.out]; exact HZac.out) (by rw [HS0.out]; decide) (by rw [HS0.out]; decide) ?_
                              simp only [Act.put, List.setIfInBounds_toArray, List.set_cons_zero, List.set_cons_succ]
                              exact hK.out _ _ ⟨_, rfl, (Kept.refl _ _ _).alloc (Nat.le_refl _) _, HOac.out _ _ (heap_new _ _)⟩
                          refine AllFree.cons [(7, 75), (10, 78)] rfl (by as_aux_lemma => kernel_rfl) (by as_aux_lemma => kernel_rfl) (fun V z u hu hz hy K hK => ?_) ?_
                          · as_aux_lemma =>
                              rw [putAll_cons] at hK ⊢
                              simp only [List.setIfInBounds_toArray, List.set_cons_zero, List.set_cons_succ] at hK ⊢
                              rw [putAll_cons] at hK ⊢
                              simp only [List.setIfInBounds_toArray, List.set_cons_zero, List.set_cons_succ] at hK ⊢
                              rw [putAll_nil] at hK ⊢
                              simp only [Act.put, List.setIfInBounds_toArray, List.set_cons_zero, List.set_cons_succ, List.getElem_toArray, List.getElem_cons_succ, List.getElem_cons_zero] at hK
                              have y75 : Own u 0 (V 75) [m] := hy (7, 75) (by simp)
                              generalize V 75 = v75 at y75 hK ⊢
                              have y78 : Own u 0 (V 78) [x.a] := hy (10, 78) (by simp)
                              generalize V 78 = v78 at y78 hK ⊢
                              have HU := Lib.hid hu
                              clear hu hy
                              clear hz
                              obtain ⟨oad, oc, rfl⟩ := y75.shape (n := 1) rfl
                              obtain ⟨iad, ic, rfl⟩ := y78.shape (n := 1) rfl
                              have Y1 := Lib.hid y75
                              have Y2 := Lib.hid y78
                              clear y75 y78
                              go_simp
                              go_wp2_with (go_at_call 8; refine (made_any5 _ _ _ _ _ _ _).mono ?_; rintro e u2 ⟨rfl, k2⟩)
                              exact hK.out _ _ ⟨_, rfl, k2, _, _, rfl, Y2.out.kept k2 (Nat.le_refl _), Y1.out.kept k2 (Nat.le_refl _)⟩
                          refine AllFree.cons [(11, 79)] rfl (by as_aux_lemma => kernel_rfl) (by as_aux_lemma => kernel_rfl) (fun V z u hu hz hy K hK => ?_) ?_
                          · as_aux_lemma =>
                              simp only [putAll, List.foldl, Act.put, List.setIfInBounds_toArray, List.set_cons_zero, List.set_cons_succ, List.getElem_toArray, List.getElem_cons_succ, List.getElem_cons_zero] at hK ⊢
                              have y79 : FVal u (V 79) ([x.a], [m]) := hy (11, 79) (by simp)
                              generalize V 79 = v79 at y79 hK ⊢
                              have HU := Lib.hid hu
                              clear hu hy
                              clear hz
                              obtain ⟨fa, fb, rfl, ya, yb⟩ := y79
                              have YA := Lib.hid ya
                              have YB := Lib.hid yb
                              clear ya yb
                              refine wp_build_one _ 31 35 rfl iF zF Try.underlying31 HIF.out HZF.out #[fa, fb] rfl (by rw [HSF.out]; rfl) (by rw [HSF.out]; decide) (by rw [HSF.out]; decide) ?_
                              simp only [Act.put, List.setIfInBounds_toArray, List.set_cons_zero, List.set_cons_succ]
                              exact hK.out _ _ ⟨_, rfl, (Kept.refl _ _ _).alloc (Nat.le_refl _) _, frow_one (YA.out.kept ((Kept.refl _ _ _).alloc (Nat.le_refl _) _) (Nat.le_refl _)) (YB.out.kept ((Kept.refl _ _ _).alloc (Nat.le_refl _) _) (Nat.le_refl _)) (heap_new _ _)⟩
                          refine AllFree.cons [(12, 80)] rfl (by as_aux_lemma => kernel_rfl) (by as_aux_lemma => kernel_rfl) (fun V z u hu hz hy K hK => ?_) ?_
                          · as_aux_lemma =>
                              simp only [putAll, List.foldl, Act.put, List.setIfInBounds_toArray, List.set_cons_zero, List.set_cons_succ, List.getElem_toArray, List.getElem_cons_succ, List.getElem_cons_zero] at hK ⊢
                              have y80 : FRow u (V 80) [([x.a], [m])] := hy (12, 80) (by simp)
                              generalize V 80 = v80 at y80 hK ⊢
                              have HU := Lib.hid hu
                              clear hu hy
                              clear hz
                              obtain ⟨v9, u9, hr9, ho9, k9⟩ := y80.append (by simp only [List.length_cons, List.length_nil]; omega)
                              refine wp_append_known (.tmp 68) (.tmp 80) 31 31 31 rfl rfl (.slice none 0 0) v80 rfl rfl hr9 ?_
                              simp only [Act.put, List.setIfInBounds_toArray, List.set_cons_zero, List.set_cons_succ]
                              exact hK.out _ _ ⟨_, rfl, k9, ho9⟩
                          refine AllFree.cons [(13, 81)] rfl (by as_aux_lemma => kernel_rfl) (by as_aux_lemma => kernel_rfl) (fun V z u hu hz hy K hK => ?_) ?_
                          · as_aux_lemma =>
                              simp only [putAll, List.foldl, Act.put, List.setIfInBounds_toArray, List.set_cons_zero, List.set_cons_succ, List.getElem_toArray, List.getElem_cons_succ, List.getElem_cons_zero] at hK ⊢
                              have y81 : OwnF u 0 (V 81) [([x.a], [m])] := hy (13, 81) (by simp)
                              generalize V 81 = v81 at y81 hK ⊢
                              have HU := Lib.hid hu
                              clear hu hy
                              clear hz
                              have YD := Lib.hid y81
                              clear y81
                              go_simp
                              exact hK.out _ _ ⟨_, rfl, Kept.refl _ _ _, YD.out⟩
                          exact AllFree.nil
                        · as_aux_lemma =>
                            intro V u hu hz hy
                            have y11 : OwnF u 0 (V 11) [([x.a], [m])] := hy 14 _ rfl rfl
                            have hz1 : InBook u b2 bb (Bk.note gs ([x.a], [m])) (nk + 3) := hz
                            have N9 := Lib.hid (ND.out.book (hz1.more (show nk + 3 ≤ nk + 9 by omega)) hu)
                            have Y11 := Lib.hid y11
                            clear hu hz hy hz1 y11
                            refine NoPanic.normal ?_
                            rw [putAll_cons]
                            simp only [List.setIfInBounds_toArray, List.set_cons_zero, List.set_cons_succ]
                            rw [putAll_cons]
                            simp only [List.setIfInBounds_toArray, List.set_cons_zero, List.set_cons_succ]
                            rw [putAll_cons]
                            simp only [List.setIfInBounds_toArray, List.set_cons_zero, List.set_cons_succ]
                            rw [putAll_cons]
                            simp only [List.setIfInBounds_toArray, List.set_cons_zero, List.set_cons_succ]
                            rw [putAll_cons]
                            simp only [List.setIfInBounds_toArray, List.set_cons_zero, List.set_cons_succ]
                            rw [putAll_cons]
                            simp only [List.setIfInBounds_toArray, List.set_cons_zero, List.set_cons_succ]
                            rw [putAll_cons]
                            simp only [List.setIfInBounds_toArray, List.set_cons_zero, List.set_cons_succ]
                            rw [putAll_nil]
                            generalize V 11 = v11 at Y11 ⊢
                            go_wp2
                            go_meet
                            exact ⟨v11, rfl, Lib.hid (by rw [hfx]; exact Y11.out), Lib.hid (by rw [hgx]; exact N9.out)⟩
                    by_cases hq1 : dd = 1
                    · as_aux_lemma =>
                        have hb0 : (dd == 0) = false := by simp [hq0]
                        have hb1 : (dd == 1) = true := by simp [hq1]
                        have hfx := HFD.out
                        have hgx := HGX.out
                        rw [if_neg hq0, if_pos hq1] at hfx
                        rw [hfx] at hgx
                        simp only [List.foldl_cons, List.foldl_nil] at hgx
                        clear hq0 hq1
                        obtain ⟨m, hm⟩ : ∃ t, t = Mc.code x.a x.b := ⟨_, rfl⟩
                        have hm32 : m.length = 32 := by rw [hm]; exact Mc.code_length _ _
                        have HDER := Lib.hid (fun (u : World) (hB : InBook u b2 bb gs nk) (hb : b2 ≤ u.heap.size) => mix_b5 b2 bb nk gs x.a x.b HA32.out HB32.out u hB hb HRM.out.mild)
                        rw [← hm] at HDER
                        rw [← hm] at hfx hgx
                        have HOtt := Lib.hid (fun (u : World) (q : Nat) (h : u.heap[q]? = some (.cells ((bcells x.a).toArray ++ (bcells x.b).toArray) 25 (0, 0))) => own_two5 HA32.out HB32.out h)
                        have HOac := Lib.hid (fun (u : World) (q : Nat) (h : u.heap[q]? = some (.cells (bcells x.a).toArray 25 (0, 0))) => own_one5 HA32.out h)
                        have HZac := Lib.hid (show (bcells x.a).toArray.size = 32 by rw [List.size_toArray, bcells_length, HA32.out])
                        have HObc := Lib.hid (fun (u : World) (q : Nat) (h : u.heap[q]? = some (.cells (bcells x.b).toArray 25 (0, 0))) => own_one5 HB32.out h)
                        have HZbc := Lib.hid (show (bcells x.b).toArray.size = 32 by rw [List.size_toArray, bcells_length, HB32.out])
                        have HOmc := Lib.hid (fun (u : World) (q : Nat) (h : u.heap[q]? = some (.cells (bcells m).toArray 25 (0, 0))) => own_one5 hm32 h)
                        have HZmc := Lib.hid (show (bcells m).toArray.size = 32 by rw [List.size_toArray, bcells_length, hm32])
                        obtain ⟨ac, hac⟩ : ∃ t, t = (bcells x.a).toArray := ⟨_, rfl⟩
                        rw [← hac] at HOac HZac HDER HLA HOtt
                        clear hac
                        obtain ⟨bc, hbc⟩ : ∃ t, t = (bcells x.b).toArray := ⟨_, rfl⟩
                        rw [← hbc] at HObc HZbc HDER HLB HOtt
                        clear hbc
                        obtain ⟨mc, hmc⟩ : ∃ t, t = (bcells m).toArray := ⟨_, rfl⟩
                        rw [← hmc] at HOmc HZmc HDER
                        clear hmc
                        clear hm hm32 HOac HObc
                        have kd0 : Kept w14.heap.size w14.heap.size w14 w14.drew := (Kept.refl _ _ _).drew
                        have ND := Lib.hid (N14.out.kept kd0)
                        have RD := Lib.hid (row_kept RX.out kd0)
                        have HB2 := Lib.hid ND.out.hb2
                        clear kd0
                        go_upto_region 17 with fail
                        refine wp_region_lit ?_
                        refine @BigFrame.wpList_want _ _ _ _ _ _ _ ?hw131072 ?_
                        case hw131072 => kernel_rfl
                        intro K hK
                        go_simp
                        refine hK _ _ ?_
                        clear hK K
                        refine @BigFrame.wpList_want _ _ _ _ _ _ _ ?hw131073 ?_
                        case hw131073 => kernel_rfl
                        intro K hK
                        go_simp
                        refine hK _ _ ?_
                        clear hK K
                        go_upto_region 19 with fail
                        refine wp_region_lit ?_
                        refine @BigFrame.wpList_want _ _ _ _ _ _ _ ?hw131074 ?_
                        case hw131074 => kernel_rfl
                        intro K hK
                        go_simp
                        refine hK _ _ ?_
                        clear hK K
                        refine @BigFrame.wpList_want _ _ _ _ _ _ _ ?hw131075 ?_
                        case hw131075 => kernel_rfl
                        intro K hK
                        go_simp
                        refine hK _ _ ?_
                        clear hK K
                        go_upto_region 20 with fail
                        refine wp_region_noPanic ?_
                        refine wp_region_held_drew (S := fun u => u.heap[xb]? = some (.cells XC 28 (0, 0))) (by kernel_rfl) (RD.out) (fun hH => ?_)
                        generalize w14.drew = wd at ND RD HB2 hH ⊢
                        refine wpAnyH_take_ex (i := 0) 84 rfl rfl (by kernel_rfl) (by kernel_rfl) (by kernel_rfl) (fun _ _ _ _ h => h) (by kernel_rfl) hH ?_
                        apply Exists.intro
                        apply And.intro
                        · intro w9 _
                          go_simp
                          first | done | rfl
                        simp only [List.setIfInBounds_toArray, List.set_cons_zero, List.set_cons_succ]
                        refine wpAnyH_take_ex (i := 1) 85 rfl rfl (by kernel_rfl) (by kernel_rfl) (by kernel_rfl) (fun _ _ _ _ h => h) (by kernel_rfl) hH ?_
                        apply Exists.intro
                        apply And.intro
                        · intro w9 _
                          go_simp
                          first | done | rfl
                        simp only [List.setIfInBounds_toArray, List.set_cons_zero, List.set_cons_succ]
                        refine wpAnyH_take_ex (i := 2) 86 rfl rfl (by kernel_rfl) (by kernel_rfl) (by kernel_rfl) (fun _ _ _ _ h => h) (by kernel_rfl) hH ?_
                        apply Exists.intro
                        apply And.intro
                        · intro w9 _
                          go_simp
                          first | done | rfl
                        simp only [List.setIfInBounds_toArray, List.set_cons_zero, List.set_cons_succ]
                        refine wpAnyH_take_at (i := 3) 87 (.agg ac) rfl rfl (by kernel_rfl) (by kernel_rfl) (by kernel_rfl) (fun _ _ _ h => h) (yieldsIf_load_known (by kernel_rfl) 26 _ rfl (xb) (1) rfl (.agg ac) (fun w9 h9 => HLA.out w9 h9)) hH ?_
                        simp only [List.setIfInBounds_toArray, List.set_cons_zero, List.set_cons_succ]
                        refine wpAnyH_take_ex (i := 4) 88 rfl rfl (by kernel_rfl) (by kernel_rfl) (by kernel_rfl) (fun _ _ _ _ h => h) (by kernel_rfl) hH ?_
                        apply Exists.intro
                        apply And.intro
                        · intro w9 _
                          go_simp
                          first | done | rfl
                        simp only [List.setIfInBounds_toArray, List.set_cons_zero, List.set_cons_succ]
                        refine wpAnyH_take_at (i := 5) 89 (.agg bc) rfl rfl (by kernel_rfl) (by kernel_rfl) (by kernel_rfl) (fun _ _ _ h => h) (yieldsIf_load_known (by kernel_rfl) 26 _ rfl (xb) (33) rfl (.agg bc) (fun w9 h9 => HLB.out w9 h9)) hH ?_
                        simp only [List.setIfInBounds_toArray, List.set_cons_zero, List.set_cons_succ]
                        refine wpAnyH_take_ex (i := 8) 92 rfl rfl (by kernel_rfl) (by kernel_rfl) (by kernel_rfl) (fun _ _ _ _ h => h) (by kernel_rfl) hH ?_
                        apply Exists.intro
                        apply And.intro
                        · intro w9 _
                          go_simp
                          first | done | rfl
                        simp only [List.setIfInBounds_toArray, List.set_cons_zero, List.set_cons_succ]
                        refine wpAnyH_take_at (i := 9) 93 (.agg ac) rfl rfl (by kernel_rfl) (by kernel_rfl) (by kernel_rfl) (fun _ _ _ h => h) (yieldsIf_load_known (by kernel_rfl) 26 _ rfl (xb) (1) rfl (.agg ac) (fun w9 h9 => HLA.out w9 h9)) hH ?_
                        simp only [List.setIfInBounds_toArray, List.set_cons_zero, List.set_cons_succ]
                        refine wpAnyH_take_ex (i := 10) 94 rfl rfl (by kernel_rfl) (by kernel_rfl) (by kernel_rfl) (fun _ _ _ _ h => h) (by kernel_rfl) hH ?_
                        apply Exists.intro
                        apply And.intro
                        · intro w9 _
                          go_simp
                          first | done | rfl
                        simp only [List.setIfInBounds_toArray, List.set_cons_zero, List.set_cons_succ]
                        refine wpAnyH_take_at (i := 11) 95 (.agg bc) rfl rfl (by kernel_rfl) (by kernel_rfl) (by kernel_rfl) (fun _ _ _ h => h) (yieldsIf_load_known (by kernel_rfl) 26 _ rfl (xb) (33) rfl (.agg bc) (fun w9 h9 => HLB.out w9 h9)) hH ?_
                        simp only [List.setIfInBounds_toArray, List.set_cons_zero, List.set_cons_succ]
                        refine wpAnyH_each 6 (fun u u' => Kept u.heap.size u.heap.size u u') (BkFr b2) (fun z u => match z with | true => InBook u b2 bb (Bk.note gs ([x.a, x.b], [m])) (nk + 4) | false => InBook u b2 bb gs nk) (fun i v u => (ykAt [(6, .val (.agg mc)), (7, .own ([m])), (12, .own ([x.a, x.b])), (13, .fval (([x.a, x.b], [m]))), (14, .frow ([([x.a, x.b], [m])])), (15, .ownf ([([x.a, x.b], [m])])), (16, .ownf ([([x.a, x.b], [m])]))] i).at v u) [6, 7, 12, 13, 14, 15, 16] [(6, 90), (7, 91), (12, 96), (13, 97), (14, 98), (15, 99), (16, 11)] (by as_aux_lemma => kernel_rfl) (by as_aux_lemma => kernel_rfl) (by as_aux_lemma => kernel_rfl) (by as_aux_lemma => kernel_rfl) (by as_aux_lemma => kernel_rfl) (by as_aux_lemma => kernel_rfl) NoPanic.not (fun u u' h k => BkFr.ofKept (h.base HB2.out) k) (fun u u' h k => h.trans k) (fun z u u' _ h k => by cases z <;> exact InBook.kept h k) (fun i v u u' _ h k => YK.bk h k) (fun u h => h.oth _ _ _ _ RD.out (by decide) (by decide) (by decide)) (BkFr.refl _ _) (ND.out.bk) ?_ ?_
                        · refine AllFree.turn [] rfl (by as_aux_lemma => kernel_rfl) (fun V u hu hz hy K hK => ?_) ?_
                          · as_aux_lemma =>
                              simp only [putAll, List.foldl, Act.put, List.setIfInBounds_toArray, List.set_cons_zero, List.set_cons_succ, List.getElem_toArray, List.getElem_cons_succ, List.getElem_cons_zero] at hK ⊢
                              have HU := Lib.hid hu
                              clear hu hy
                              have hz1 : InBook u b2 bb gs nk := hz
                              clear hz
                              have HZ1 := Lib.hid hz1
                              clear hz1
                              go_simp
                              go_wp2_with (go_at_call 10; refine (HDER.out u HZ1.out (HU.out.base HB2.out)).mono ?_; rintro e u2 ⟨rfl, q2, f2⟩)
                              exact hK.out _ _ (⟨_, rfl, ⟨f2, q2⟩, rfl⟩)
                          refine AllFree.cons [(6, 90)] rfl (by as_aux_lemma => kernel_rfl) (by as_aux_lemma => kernel_rfl) (fun V z u hu hz hy K hK => ?_) ?_
                          · as_aux_lemma =>
                              simp only [putAll, List.foldl, Act.put, List.setIfInBounds_toArray, List.set_cons_zero, List.set_cons_succ, List.getElem_toArray, List.getElem_cons_succ, List.getElem_cons_zero] at hK ⊢
                              have y90 : (V 90) = .agg mc := hy (6, 90) (by simp)
                              generalize V 90 = v90 at y90 hK ⊢
                              have HU := Lib.hid hu
                              clear hu hy
                              clear hz
                              subst y90
                              refine wp_build_one _ 33 25 rfl i0 z0 Try.underlying33 HI0.out HZ0.out mc rfl (by rw [HS0.out]; exact HZmc.out) (by rw [HS0.out]; decide) (by rw [HS0.out]; decide) ?_
                              simp only [Act.put, List.setIfInBounds_toArray, List.set_cons_zero, List.set_cons_succ]
                              exact hK.out _ _ ⟨_, rfl, (Kept.refl _ _ _).alloc (Nat.le_refl _) _, HOmc.out _ _ (heap_new _ _)⟩
                          refine AllFree.cons [] rfl (by as_aux_lemma => kernel_rfl) (by as_aux_lemma => kernel_rfl) (fun V z u hu hz hy K hK => ?_) ?_
                          · as_aux_lemma =>
                              simp only [putAll, List.foldl, Act.put, List.setIfInBounds_toArray, List.set_cons_zero, List.set_cons_succ, List.getElem_toArray, List.getElem_cons_succ, List.getElem_cons_zero] at hK ⊢
                              have HU := Lib.hid hu
                              clear hu hy
                              clear hz
                              refine wp_sliceN 33 2 _ rfl #[(0, .agg ac), (1, .agg bc)] (by simp only [List.map_toArray, List.map_cons, List.map_nil]; rfl) (run_build_two u 33 25 i0 z0 Try.underlying33 HI0.out HZ0.out ac bc (by rw [HS0.out]; exact HZac.out) (by rw [HS0.out]; exact HZbc.out) (by rw [HS0.out]; decide) (by rw [HS0.out]; decide)) ?_
                              simp only [Act.put, List.setIfInBounds_toArray, List.set_cons_zero, List.set_cons_succ]
                              exact hK.out _ _ ⟨_, rfl, (Kept.refl _ _ _).alloc (Nat.le_refl _) _, HOtt.out _ _ (heap_new _ _)⟩
                          refine AllFree.cons [(7, 91), (12, 96)] rfl (by as_aux_lemma => kernel_rfl) (by as_aux_lemma => kernel_rfl) (fun V z u hu hz hy K hK => ?_) ?_
                          · as_aux_lemma =>
                              rw [putAll_cons] at hK ⊢
                              simp only [List.setIfInBounds_toArray, List.set_cons_zero, List.set_cons_succ] at hK ⊢
                              rw [putAll_cons] at hK ⊢
                              simp only [List.setIfInBounds_toArray, List.set_cons_zero, List.set_cons_succ] at hK ⊢
                              rw [putAll_nil] at hK ⊢
                              simp only [Act.put, List.setIfInBounds_toArray, List.set_cons_zero, List.set_cons_succ, List.getElem_toArray, List.getElem_cons_succ, List.getElem_cons_zero] at hK
                              have y91 : Own u 0 (V 91) [m] := hy (7, 91) (by simp)
                              generalize V 91 = v91 at y91 hK ⊢
                              have y96 : Own u 0 (V 96) [x.a, x.b] := hy (12, 96) (by simp)
                              generalize V 96 = v96 at y96 hK ⊢
                              have HU := Lib.hid hu
                              clear hu hy
                              clear hz
                              obtain ⟨oad, oc, rfl⟩ := y91.shape (n := 1) rfl
                              obtain ⟨iad, ic, rfl⟩ := y96.shape (n := 2) rfl
                              have Y1 := Lib.hid y91
                              have Y2 := Lib.hid y96
                              clear y91 y96
                              go_simp
                              go_wp2_with (go_at_call 8; refine (made_any5 _ _ _ _ _ _ _).mono ?_; rintro e u2 ⟨rfl, k2⟩)
                              exact hK.out _ _ ⟨_, rfl, k2, _, _, rfl, Y2.out.kept k2 (Nat.le_refl _), Y1.out.kept k2 (Nat.le_refl _)⟩
                          refine AllFree.cons [(13, 97)] rfl (by as_aux_lemma => kernel_rfl) (by as_aux_lemma => kernel_rfl) (fun V z u hu hz hy K hK => ?_) ?_
                          · as_aux_lemma =>
                              simp only [putAll, List.foldl, Act.put, List.setIfInBounds_toArray, List.set_cons_zero, List.set_cons_succ, List.getElem_toArray, List.getElem_cons_succ, List.getElem_cons_zero] at hK ⊢
                              have y97 : FVal u (V 97) ([x.a, x.b], [m]) := hy (13, 97) (by simp)
                              generalize V 97 = v97 at y97 hK ⊢
                              have HU := Lib.hid hu
                              clear hu hy
                              clear hz
                              obtain ⟨fa, fb, rfl, ya, yb⟩ := y97
                              have YA := Lib.hid ya
                              have YB := Lib.hid yb
                              clear ya yb
                              refine wp_build_one _ 31 35 rfl iF zF Try.underlying31 HIF.out HZF.out #[fa, fb] rfl (by rw [HSF.out]; rfl) (by rw [HSF.out]; decide) (by rw [HSF.out]; decide) ?_
                              simp only [Act.put, List.setIfInBounds_toArray, List.set_cons_zero, List.set_cons_succ]
                              exact hK.out _ _ ⟨_, rfl, (Kept.refl _ _ _).alloc (Nat.le_refl _) _, frow_one (YA.out.kept ((Kept.refl _ _ _).alloc (Nat.le_refl _) _) (Nat.le_refl _)) (YB.out.kept ((Kept.refl _ _ _).alloc (Nat.le_refl _) _) (Nat.le_refl _)) (heap_new _ _)⟩
                          refine AllFree.cons [(14, 98)] rfl (by as_aux_lemma => kernel_rfl) (by as_aux_lemma => kernel_rfl) (fun V z u hu hz hy K hK => ?_) ?_
                          · as_aux_lemma =>
                              simp only [putAll, List.foldl, Act.put, List.setIfInBounds_toArray, List.set_cons_zero, List.set_cons_succ, List.getElem_toArray, List.getElem_cons_succ, List.getElem_cons_zero] at hK ⊢
                              have y98 : FRow u (V 98) [([x.a, x.b], [m])] := hy (14, 98) (by simp)
                              generalize V 98 = v98 at y98 hK ⊢
                              have HU := Lib.hid hu
                              clear hu hy
                              clear hz
                              obtain ⟨v9, u9, hr9, ho9, k9⟩ := y98.append (by simp only [List.length_cons, List.length_nil]; omega)
                              refine wp_append_known (.tmp 84) (.tmp 98) 31 31 31 rfl rfl (.slice none 0 0) v98 rfl rfl hr9 ?_
                              simp only [Act.put, List.setIfInBounds_toArray, List.set_cons_zero, List.set_cons_succ]
                              exact hK.out _ _ ⟨_, rfl, k9, ho9⟩
                          refine AllFree.cons [(15, 99)] rfl (by as_aux_lemma => kernel_rfl) (by as_aux_lemma => kernel_rfl) (fun V z u hu hz hy K hK => ?_) ?_
                          · as_aux_lemma =>
                              simp only [putAll, List.foldl, Act.put, List.setIfInBounds_toArray, List.set_cons_zero, List.set_cons_succ, List.getElem_toArray, List.getElem_cons_succ, List.getElem_cons_zero] at hK ⊢
                              have y99 : OwnF u 0 (V 99) [([x.a, x.b], [m])] := hy (15, 99) (by simp)
                              generalize V 99 = v99 at y99 hK ⊢
                              have HU := Lib.hid hu
                              clear hu hy
                              clear hz
                              have YD := Lib.hid y99
                              clear y99
                              go_simp
                              exact hK.out _ _ ⟨_, rfl, Kept.refl _ _ _, YD.out⟩
                          exact AllFree.nil
                        · as_aux_lemma =>
                            intro V u hu hz hy
                            have y11 : OwnF u 0 (V 11) [([x.a, x.b], [m])] := hy 16 _ rfl rfl
                            have hz1 : InBook u b2 bb (Bk.note gs ([x.a, x.b], [m])) (nk + 4) := hz
                            have N9 := Lib.hid (ND.out.book (hz1.more (show nk + 4 ≤ nk + 9 by omega)) hu)
                            have Y11 := Lib.hid y11
                            clear hu hz hy hz1 y11
                            refine NoPanic.normal ?_
                            rw [putAll_cons]
                            simp only [List.setIfInBounds_toArray, List.set_cons_zero, List.set_cons_succ]
                            rw [putAll_cons]
                            simp only [List.setIfInBounds_toArray, List.set_cons_zero, List.set_cons_succ]
                            rw [putAll_cons]
                            simp only [List.setIfInBounds_toArray, List.set_cons_zero, List.set_cons_succ]
                            rw [putAll_cons]
                            simp only [List.setIfInBounds_toArray, List.set_cons_zero, List.set_cons_succ]
                            rw [putAll_cons]
                            simp only [List.setIfInBounds_toArray, List.set_cons_zero, List.set_cons_succ]
                            rw [putAll_cons]
                            simp only [List.setIfInBounds_toArray, List.set_cons_zero, List.set_cons_succ]
                            rw [putAll_cons]
                            simp only [List.setIfInBounds_toArray, List.set_cons_zero, List.set_cons_succ]
                            rw [putAll_nil]
                            generalize V 11 = v11 at Y11 ⊢
                            go_wp2
                            go_meet
                            exact ⟨v11, rfl, Lib.hid (by rw [hfx]; exact Y11.out), Lib.hid (by rw [hgx]; exact N9.out)⟩
                    by_cases hq2 : dd = 2
                    · as_aux_lemma =>
                        have hb0 : (dd == 0) = false := by simp [hq0]
                        have hb1 : (dd == 1) = false := by simp [hq1]
                        have hb2 : (dd == 2) = true := by simp [hq2]
                        have hfx := HFD.out
                        have hgx := HGX.out
                        rw [if_neg hq0, if_neg hq1, if_pos hq2] at hfx
                        rw [hfx] at hgx
                        simp only [List.foldl_cons, List.foldl_nil] at hgx
                        clear hq0 hq1 hq2
                        obtain ⟨p, hp⟩ : ∃ t, t = Pm.pub x.a := ⟨_, rfl⟩
                        have hp32 : p.length = 32 := by rw [hp]; exact Pm.pub_length _
                        rw [← hp] at hfx hgx
                        obtain ⟨mq, hmq⟩ : ∃ t, t = Pm.mark p := ⟨_, rfl⟩
                        have hmq32 : mq.length = 32 := by rw [hmq]; exact Pm.mark_length _
                        have HDER := Lib.hid (fun (u : World) (hB : InBook u b2 bb gs nk) (hb : b2 ≤ u.heap.size) => pub_book b2 bb nk gs x.a HA32 u hB hb HRM.out.mild)
                        have HMK := Lib.hid (fun (u : World) => refmark_calls p (Lib.hid hp32) u)
                        rw [← hp, ← hmq] at HDER
                        rw [← hmq] at HMK
                        rw [← hmq] at hfx hgx
                        have HOac := Lib.hid (fun (u : World) (q : Nat) (h : u.heap[q]? = some (.cells (bcells x.a).toArray 25 (0, 0))) => own_one5 HA32.out h)
                        have HZac := Lib.hid (show (bcells x.a).toArray.size = 32 by rw [List.size_toArray, bcells_length, HA32.out])
                        have HOqc := Lib.hid (fun (u : World) (q : Nat) (h : u.heap[q]? = some (.cells (bcells mq).toArray 25 (0, 0))) => own_one5 hmq32 h)
                        have HZqc := Lib.hid (show (bcells mq).toArray.size = 32 by rw [List.size_toArray, bcells_length, hmq32])
                        obtain ⟨ac, hac⟩ : ∃ t, t = (bcells x.a).toArray := ⟨_, rfl⟩
                        rw [← hac] at HOac HZac HDER HLA
                        clear hac
                        obtain ⟨qc, hqc⟩ : ∃ t, t = (bcells mq).toArray := ⟨_, rfl⟩
                        rw [← hqc] at HOqc HZqc HMK
                        clear hqc
                        obtain ⟨pc, hpc⟩ : ∃ t, t = (bcells p).toArray := ⟨_, rfl⟩
                        rw [← hpc] at HDER HMK
                        clear hpc
                        clear hp hp32 hmq hmq32
                        have kd0 : Kept w14.heap.size w14.heap.size w14 w14.drew := (Kept.refl _ _ _).drew
                        have ND := Lib.hid (N14.out.kept kd0)
                        have RD := Lib.hid (row_kept RX.out kd0)
                        have HB2 := Lib.hid ND.out.hb2
                        clear kd0
                        go_upto_region 17 with fail
                        refine wp_region_lit ?_
                        refine @BigFrame.wpList_want _ _ _ _ _ _ _ ?hw131076 ?_
                        case hw131076 => kernel_rfl
                        intro K hK
                        go_simp
                        refine hK _ _ ?_
                        clear hK K
                        refine @BigFrame.wpList_want _ _ _ _ _ _ _ ?hw131077 ?_
                        case hw131077 => kernel_rfl
                        intro K hK
                        go_simp
                        refine hK _ _ ?_
                        clear hK K
                        go_upto_region 19 with fail
                        refine wp_region_lit ?_
                        refine @BigFrame.wpList_want _ _ _ _ _ _ _ ?hw131078 ?_
                        case hw131078 => kernel_rfl
                        intro K hK
                        go_simp
                        refine hK _ _ ?_
                        clear hK K
                        refine @BigFrame.wpList_want _ _ _ _ _ _ _ ?hw131079 ?_
                        case hw131079 => kernel_rfl
                        intro K hK
                        go_simp
                        refine hK _ _ ?_
                        clear hK K
                        go_upto_region 21 with fail
                        refine wp_region_lit ?_
                        refine @BigFrame.wpList_want _ _ _ _ _ _ _ ?hw131080 ?_
                        case hw131080 => kernel_rfl
                        intro K hK
                        go_simp
                        refine hK _ _ ?_
                        clear hK K
                        refine @BigFrame.wpList_want _ _ _ _ _ _ _ ?hw131081 ?_
                        case hw131081 => kernel_rfl
                        intro K hK
                        go_simp
                        refine hK _ _ ?_
                        clear hK K
                        go_upto_region 22 with fail
                        refine wp_region_noPanic ?_
                        refine wp_region_held_drew (S := fun u => u.heap[xb]? = some (.cells XC 28 (0, 0))) (by kernel_rfl) (RD.out) (fun hH => ?_)
                        generalize w14.drew = wd at ND RD HB2 hH ⊢
                        refine wpAnyH_take_ex (i := 0) 102 rfl rfl (by kernel_rfl) (by kernel_rfl) (by kernel_rfl) (fun _ _ _ _ h => h) (by kernel_rfl) hH ?_
                        apply Exists.intro
                        apply And.intro
                        · intro w9 _
                          go_simp
                          first | done | rfl
                        simp only [List.setIfInBounds_toArray, List.set_cons_zero, List.set_cons_succ]
                        refine wpAnyH_take_ex (i := 1) 103 rfl rfl (by kernel_rfl) (by kernel_rfl) (by kernel_rfl) (fun _ _ _ _ h => h) (by kernel_rfl) hH ?_
                        apply Exists.intro
                        apply And.intro
                        · intro w9 _
                          go_simp
                          first | done | rfl
                        simp only [List.setIfInBounds_toArray, List.set_cons_zero, List.set_cons_succ]
                        refine wpAnyH_take_ex (i := 2) 104 rfl rfl (by kernel_rfl) (by kernel_rfl) (by kernel_rfl) (fun _ _ _ _ h => h) (by kernel_rfl) hH ?_
                        apply Exists.intro
                        apply And.intro
                        · intro w9 _
                          go_simp
                          first | done | rfl
                        simp only [List.setIfInBounds_toArray, List.set_cons_zero, List.set_cons_succ]
                        refine wpAnyH_take_at (i := 3) 105 (.agg ac) rfl rfl (by kernel_rfl) (by kernel_rfl) (by kernel_rfl) (fun _ _ _ h => h) (yieldsIf_load_known (by kernel_rfl) 26 _ rfl (xb) (1) rfl (.agg ac) (fun w9 h9 => HLA.out w9 h9)) hH ?_
                        simp only [List.setIfInBounds_toArray, List.set_cons_zero, List.set_cons_succ]
                        refine wpAnyH_take_ex (i := 7) 109 rfl rfl (by kernel_rfl) (by kernel_rfl) (by kernel_rfl) (fun _ _ _ _ h => h) (by kernel_rfl) hH ?_
                        apply Exists.intro
                        apply And.intro
                        · intro w9 _
                          go_simp
                          first | done | rfl
                        simp only [List.setIfInBounds_toArray, List.set_cons_zero, List.set_cons_succ]
                        refine wpAnyH_take_at (i := 8) 110 (.agg ac) rfl rfl (by kernel_rfl) (by kernel_rfl) (by kernel_rfl) (fun _ _ _ h => h) (yieldsIf_load_known (by kernel_rfl) 26 _ rfl (xb) (1) rfl (.agg ac) (fun w9 h9 => HLA.out w9 h9)) hH ?_
                        simp only [List.setIfInBounds_toArray, List.set_cons_zero, List.set_cons_succ]
                        refine wpAnyH_each 4 (fun u u' => Kept u.heap.size u.heap.size u u') (BkFr b2) (fun z u => match z with | true => InBook u b2 bb (Bk.note gs ([x.a], [mq])) (nk + 3) | false => InBook u b2 bb gs nk) (fun i v u => (ykAt [(4, .val (.agg pc)), (5, .val (.agg qc)), (6, .own ([mq])), (9, .own ([x.a])), (10, .fval (([x.a], [mq]))), (11, .frow ([([x.a], [mq])])), (12, .ownf ([([x.a], [mq])])), (13, .ownf ([([x.a], [mq])]))] i).at v u) [4, 5, 6, 9, 10, 11, 12, 13] [(4, 106), (5, 107), (6, 108), (9, 111), (10, 112), (11, 113), (12, 114), (13, 11)] (by as_aux_lemma => kernel_rfl) (by as_aux_lemma => kernel_rfl) (by as_aux_lemma => kernel_rfl) (by as_aux_lemma => kernel_rfl) (by as_aux_lemma => kernel_rfl) (by as_aux_lemma => kernel_rfl) NoPanic.not (fun u u' h k => BkFr.ofKept (h.base HB2.out) k) (fun u u' h k => h.trans k) (fun z u u' _ h k => by cases z <;> exact InBook.kept h k) (fun i v u u' _ h k => YK.bk h k) (fun u h => h.oth _ _ _ _ RD.out (by decide) (by decide) (by decide)) (BkFr.refl _ _) (ND.out.bk) ?_ ?_
                        · refine AllFree.turn [] rfl (by as_aux_lemma => kernel_rfl) (fun V u hu hz hy K hK => ?_) ?_
                          · as_aux_lemma =>
                              simp only [putAll, List.foldl, Act.put, List.setIfInBounds_toArray, List.set_cons_zero, List.set_cons_succ, List.getElem_toArray, List.getElem_cons_succ, List.getElem_cons_zero] at hK ⊢
                              have HU := Lib.hid hu
                              clear hu hy
                              have hz1 : InBook u b2 bb gs nk := hz
                              clear hz
                              have HZ1 := Lib.hid hz1
                              clear hz1
                              go_simp
                              go_wp2_with (go_at_call 12; refine (HDER.out u HZ1.out (HU.out.base HB2.out)).mono ?_; rintro e u2 ⟨rfl, q2, f2⟩)
                              exact hK.out _ _ (⟨_, rfl, ⟨f2, q2⟩, rfl⟩)
                          refine AllFree.cons [(4, 106)] rfl (by as_aux_lemma => kernel_rfl) (by as_aux_lemma => kernel_rfl) (fun V z u hu hz hy K hK => ?_) ?_
                          · as_aux_lemma =>
                              simp only [putAll, List.foldl, Act.put, List.setIfInBounds_toArray, List.set_cons_zero, List.set_cons_succ, List.getElem_toArray, List.getElem_cons_succ, List.getElem_cons_zero] at hK ⊢
                              have y106 : (V 106) = .agg pc := hy (4, 106) (by simp)
                              generalize V 106 = v106 at y106 hK ⊢
                              have HU := Lib.hid hu
                              clear hu hy
                              clear hz
                              subst y106
                              go_simp
                              go_wp2_with (go_at_call 11; refine (HMK.out u).mono ?_; rintro e u2 ⟨rfl, k2⟩)
                              exact hK.out _ _ (⟨_, rfl, k2, rfl⟩)
                          refine AllFree.cons [(5, 107)] rfl (by as_aux_lemma => kernel_rfl) (by as_aux_lemma => kernel_rfl) (fun V z u hu hz hy K hK => ?_) ?_
                          · as_aux_lemma =>
                              simp only [putAll, List.foldl, Act.put, List.setIfInBounds_toArray, List.set_cons_zero, List.set_cons_succ, List.getElem_toArray, List.getElem_cons_succ, List.getElem_cons_zero] at hK ⊢
                              have y107 : (V 107) = .agg qc := hy (5, 107) (by simp)
                              generalize V 107 = v107 at y107 hK ⊢
                              have HU := Lib.hid hu
                              clear hu hy
                              clear hz
                              subst y107
                              refine wp_build_one _ 33 25 rfl i0 z0 Try.underlying33 HI0.out HZ0.out qc rfl (by rw [HS0.out]; exact HZqc.out) (by rw [HS0.out]; decide) (by rw [HS0.out]; decide) ?_
                              simp only [Act.put, List.setIfInBounds_toArray, List.set_cons_zero, List.set_cons_succ]
                              exact hK.out _ _ ⟨_, rfl, (Kept.refl _ _ _).alloc (Nat.le_refl _) _, HOqc.out _ _ (heap_new _ _)⟩
                          refine AllFree.cons [] rfl (by as_aux_lemma => kernel_rfl) (by as_aux_lemma => kernel_rfl) (fun V z u hu hz hy K hK => ?_) ?_
                          · as_aux_lemma =>
                              simp only [putAll, List.foldl, Act.put, List.setIfInBounds_toArray, List.set_cons_zero, List.set_cons_succ, List.getElem_toArray, List.getElem_cons_succ, List.getElem_cons_zero] at hK ⊢
                              have HU := Lib.hid hu
                              clear hu hy
                              clear hz
                              refine wp_build_one _ 33 25 rfl i0 z0 Try.underlying33 HI0.out HZ0.out ac rfl (by rw [HS0.out]; exact HZac.out) (by rw [HS0.out]; decide) (by rw [HS0.out]; decide) ?_
                              simp only [Act.put, List.setIfInBounds_toArray, List.set_cons_zero, List.set_cons_succ]
                              exact hK.out _ _ ⟨_, rfl, (Kept.refl _ _ _).alloc (Nat.le_refl _) _, HOac.out _ _ (heap_new _ _)⟩
                          refine AllFree.cons [(6, 108), (9, 111)] rfl (by as_aux_lemma => kernel_rfl) (by as_aux_lemma => kernel_rfl) (fun V z u hu hz hy K hK => ?_) ?_
                          · as_aux_lemma =>
                              rw [putAll_cons] at hK ⊢
                              simp only [List.setIfInBounds_toArray, List.set_cons_zero, List.set_cons_succ] at hK ⊢
                              rw [putAll_cons] at hK ⊢
                              simp only [List.setIfInBounds_toArray, List.set_cons_zero, List.set_cons_succ] at hK ⊢
                              rw [putAll_nil] at hK ⊢
                              simp only [Act.put, List.setIfInBounds_toArray, List.set_cons_zero, List.set_cons_succ, List.getElem_toArray, List.getElem_cons_succ, List.getElem_cons_zero] at hK
                              have y108 : Own u 0 (V 108) [mq] := hy (6, 108) (by simp)
                              generalize V 108 = v108 at y108 hK ⊢
                              have y111 : Own u 0 (V 111) [x.a] := hy (9, 111) (by simp)
                              generalize V 111 = v111 at y111 hK ⊢
                              have HU := Lib.hid hu
                              clear hu hy
                              clear hz
                              obtain ⟨oad, oc, rfl⟩ := y108.shape (n := 1) rfl
                              obtain ⟨iad, ic, rfl⟩ := y111.shape (n := 1) rfl
                              have Y1 := Lib.hid y108
                              have Y2 := Lib.hid y111
                              clear y108 y111
                              go_simp
                              go_wp2_with (go_at_call 8; refine (made_any5 _ _ _ _ _ _ _).mono ?_; rintro e u2 ⟨rfl, k2⟩)
                              exact hK.out _ _ ⟨_, rfl, k2, _, _, rfl, Y2.out.kept k2 (Nat.le_refl _), Y1.out.kept k2 (Nat.le_refl _)⟩
                          refine AllFree.cons [(10, 112)] rfl (by as_aux_lemma => kernel_rfl) (by as_aux_lemma => kernel_rfl) (fun V z u hu hz hy K hK => ?_) ?_
                          · as_aux_lemma =>
                              simp only [putAll, List.foldl, Act.put, List.setIfInBounds_toArray, List.set_cons_zero, List.set_cons_succ, List.getElem_toArray, List.getElem_cons_succ, List.getElem_cons_zero] at hK ⊢
                              have y112 : FVal u (V 112) ([x.a], [mq]) := hy (10, 112) (by simp)
                              generalize V 112 = v112 at y112 hK ⊢
                              have HU := Lib.hid hu
                              clear hu hy
                              clear hz
                              obtain ⟨fa, fb, rfl, ya, yb⟩ := y112
                              have YA := Lib.hid ya
                              have YB := Lib.hid yb
                              clear ya yb
                              refine wp_build_one _ 31 35 rfl iF zF Try.underlying31 HIF.out HZF.out #[fa, fb] rfl (by rw [HSF.out]; rfl) (by rw [HSF.out]; decide) (by rw [HSF.out]; decide) ?_
                              simp only [Act.put, List.setIfInBounds_toArray, List.set_cons_zero, List.set_cons_succ]
                              exact hK.out _ _ ⟨_, rfl, (Kept.refl _ _ _).alloc (Nat.le_refl _) _, frow_one (YA.out.kept ((Kept.refl _ _ _).alloc (Nat.le_refl _) _) (Nat.le_refl _)) (YB.out.kept ((Kept.refl _ _ _).alloc (Nat.le_refl _) _) (Nat.le_refl _)) (heap_new _ _)⟩
                          refine AllFree.cons [(11, 113)] rfl (by as_aux_lemma => kernel_rfl) (by as_aux_lemma => kernel_rfl) (fun V z u hu hz hy K hK => ?_) ?_
                          · as_aux_lemma =>
                              simp only [putAll, List.foldl, Act.put, List.setIfInBounds_toArray, List.set_cons_zero, List.set_cons_succ, List.getElem_toArray, List.getElem_cons_succ, List.getElem_cons_zero] at hK ⊢
                              have y113 : FRow u (V 113) [([x.a], [mq])] := hy (11, 113) (by simp)
                              generalize V 113 = v113 at y113 hK ⊢
                              have HU := Lib.hid hu
                              clear hu hy
                              clear hz
                              obtain ⟨v9, u9, hr9, ho9, k9⟩ := y113.append (by simp only [List.length_cons, List.length_nil]; omega)
                              refine wp_append_known (.tmp 102) (.tmp 113) 31 31 31 rfl rfl (.slice none 0 0) v113 rfl rfl hr9 ?_
                              simp only [Act.put, List.setIfInBounds_toArray, List.set_cons_zero, List.set_cons_succ]
                              exact hK.out _ _ ⟨_, rfl, k9, ho9⟩
                          refine AllFree.cons [(12, 114)] rfl (by as_aux_lemma => kernel_rfl) (by as_aux_lemma => kernel_rfl) (fun V z u hu hz hy K hK => ?_) ?_
                          · as_aux_lemma =>
                              simp only [putAll, List.foldl, Act.put, List.setIfInBounds_toArray, List.set_cons_zero, List.set_cons_succ, List.getElem_toArray, List.getElem_cons_succ, List.getElem_cons_zero] at hK ⊢
                              have y114 : OwnF u 0 (V 114) [([x.a], [mq])] := hy (12, 114) (by simp)
                              generalize V 114 = v114 at y114 hK ⊢
                              have HU := Lib.hid hu
                              clear hu hy
                              clear hz
                              have YD := Lib.hid y114
                              clear y114
                              go_simp
                              exact hK.out _ _ ⟨_, rfl, Kept.refl _ _ _, YD.out⟩
                          exact AllFree.nil
                        · as_aux_lemma =>
                            intro V u hu hz hy
                            have y11 : OwnF u 0 (V 11) [([x.a], [mq])] := hy 13 _ rfl rfl
                            have hz1 : InBook u b2 bb (Bk.note gs ([x.a], [mq])) (nk + 3) := hz
                            have N9 := Lib.hid (ND.out.book (hz1.more (show nk + 3 ≤ nk + 9 by omega)) hu)
                            have Y11 := Lib.hid y11
                            clear hu hz hy hz1 y11
                            refine NoPanic.normal ?_
                            rw [putAll_cons]
                            simp only [List.setIfInBounds_toArray, List.set_cons_zero, List.set_cons_succ]
                            rw [putAll_cons]
                            simp only [List.setIfInBounds_toArray, List.set_cons_zero, List.set_cons_succ]
                            rw [putAll_cons]
                            simp only [List.setIfInBounds_toArray, List.set_cons_zero, List.set_cons_succ]
                            rw [putAll_cons]
                            simp only [List.setIfInBounds_toArray, List.set_cons_zero, List.set_cons_succ]
                            rw [putAll_cons]
                            simp only [List.setIfInBounds_toArray, List.set_cons_zero, List.set_cons_succ]
                            rw [putAll_cons]
                            simp only [List.setIfInBounds_toArray, List.set_cons_zero, List.set_cons_succ]
                            rw [putAll_cons]
                            simp only [List.setIfInBounds_toArray, List.set_cons_zero, List.set_cons_succ]
                            rw [putAll_cons]
                            simp only [List.setIfInBounds_toArray, List.set_cons_zero, List.set_cons_succ]
                            rw [putAll_nil]
                            generalize V 11 = v11 at Y11 ⊢
                            go_wp2
                            go_meet
                            exact ⟨v11, rfl, Lib.hid (by rw [hfx]; exact Y11.out), Lib.hid (by rw [hgx]; exact N9.out)⟩
                    by_cases hq3 : dd = 3
                    · as_aux_lemma =>
                        have hb0 : (dd == 0) = false := by simp [hq0]
                        have hb1 : (dd == 1) = false := by simp [hq1]
                        have hb2 : (dd == 2) = false := by simp [hq2]
                        have hb3 : (dd == 3) = true := by simp [hq3]
                        have hfx := HFD.out
                        have hgx := HGX.out
                        rw [if_neg hq0, if_neg hq1, if_neg hq2, if_pos hq3] at hfx
                        rw [hfx] at hgx
                        simp only [List.foldl_cons, List.foldl_nil] at hgx
                        clear hq0 hq1 hq2 hq3
                        obtain ⟨xt, hxt⟩ : ∃ t, t = x.text := ⟨_, rfl⟩
                        have HXT := Lib.hid (fun (u : World) (h : u.heap[xb]? = some (.cells XC 28 (0, 0))) => (show u.cell? ⟨xb, 65, none⟩ = some (.string xt) by rw [hxt]; exact (HAT.out u h).text))
                        have HXSV := Lib.hid (fun (u : World) (h : u.heap[xb]? = some (.cells XC 28 (0, 0))) => (show u.cell? ⟨xb, 66, none⟩ = some (.slice sad sn scp) by rw [← HSN.out]; exact (HAT.out u h).secs))
                        have HSL := Lib.hid (fun (u : World) (hB : InBook u b2 bb gs nk) (hb : b2 ≤ u.heap.size) (kw : Kept w.heap.size w.heap.size w u) => seal_book b2 bb nk gs x.a HA32 ⟨#[]⟩ (Lib.hid (by decide)) x.text.data.toList (Lib.hid (by have := HT200.out; simp; omega)) x.secs (.slice sad sn scp) u hB hb HRM.out.mild (HSV.out u kw) HSW.out (by rw [HSN.out]; have := HS40.out; omega))
                        rw [str_of, ← hxt] at HSL
                        obtain ⟨sl, hsl⟩ : ∃ t, t = str (Pm.sealed x.a (⟨#[]⟩ : ByteArray).data.toList xt.data.toList) := ⟨_, rfl⟩
                        rw [← hsl] at HSL
                        clear hsl
                        have HOac := Lib.hid (fun (u : World) (q : Nat) (h : u.heap[q]? = some (.cells (bcells x.a).toArray 25 (0, 0))) => own_one5 HA32.out h)
                        have HZac := Lib.hid (show (bcells x.a).toArray.size = 32 by rw [List.size_toArray, bcells_length, HA32.out])
                        obtain ⟨ac, hac⟩ : ∃ t, t = (bcells x.a).toArray := ⟨_, rfl⟩
                        rw [← hac] at HOac HZac HSL HLA
                        clear hac
                        clear hxt
                        go_upto_region 17 with fail
                        refine wp_region_lit ?_
                        refine @BigFrame.wpList_want _ _ _ _ _ _ _ ?hw131082 ?_
                        case hw131082 => kernel_rfl
                        intro K hK
                        go_simp
                        refine hK _ _ ?_
                        clear hK K
                        refine @BigFrame.wpList_want _ _ _ _ _ _ _ ?hw131083 ?_
                        case hw131083 => kernel_rfl
                        intro K hK
                        go_simp
                        refine hK _ _ ?_
                        clear hK K
                        go_upto_region 19 with fail
                        refine wp_region_lit ?_
                        refine @BigFrame.wpList_want _ _ _ _ _ _ _ ?hw131084 ?_
                        case hw131084 => kernel_rfl
                        intro K hK
                        go_simp
                        refine hK _ _ ?_
                        clear hK K
                        refine @BigFrame.wpList_want _ _ _ _ _ _ _ ?hw131085 ?_
                        case hw131085 => kernel_rfl
                        intro K hK
                        go_simp
                        refine hK _ _ ?_
                        clear hK K
                        go_upto_region 21 with fail
                        refine wp_region_lit ?_
                        refine @BigFrame.wpList_want _ _ _ _ _ _ _ ?hw131086 ?_
                        case hw131086 => kernel_rfl
                        intro K hK
                        go_simp
                        refine hK _ _ ?_
                        clear hK K
                        refine @BigFrame.wpList_want _ _ _ _ _ _ _ ?hw131087 ?_
                        case hw131087 => kernel_rfl
                        intro K hK
                        go_simp
                        refine hK _ _ ?_
                        clear hK K
                        go_upto_region 23 with fail
                        refine wp_region_lit ?_
                        refine @BigFrame.wpList_want _ _ _ _ _ _ _ ?hw131088 ?_
                        case hw131088 => kernel_rfl
                        intro K hK
                        go_simp
                        refine hK _ _ ?_
                        clear hK K
                        refine @BigFrame.wpList_want _ _ _ _ _ _ _ ?hw131089 ?_
                        case hw131089 => kernel_rfl
                        intro K hK
                        go_simp
                        refine hK _ _ ?_
                        clear hK K
                        have c65 := HXT.out w14 RX.out
                        have c66 := HXSV.out w14 RX.out
                        go_upto_region 24 with fail
                        refine wp_region_lit ?_
                        refine @BigFrame.wpList_want _ _ _ _ _ _ _ ?hw131091 ?_
                        case hw131091 => kernel_rfl
                        intro K hK
                        go_simp
                        refine hK _ _ ?_
                        clear hK K
                        refine @BigFrame.wpList_want _ _ _ _ _ _ _ ?hw131092 ?_
                        case hw131092 => kernel_rfl
                        intro K hK
                        go_simp
                        refine hK _ _ ?_
                        clear hK K
                        refine @wpList_load_known _ _ _ _ _ _ _ ?hw131093 26 (.tmp 118) rfl (xb) (1) rfl (.agg ac) (HLA.out _ RX.out) ?_
                        case hw131093 => kernel_rfl
                        simp only [Act.put, List.setIfInBounds_toArray, List.set_cons_zero, List.set_cons_succ]
                        refine @BigFrame.wpList_want _ _ _ _ _ _ _ ?hw131094 ?_
                        case hw131094 => kernel_rfl
                        intro K hK
                        go_simp
                        refine hK _ _ ?_
                        clear hK K
                        refine @BigFrame.wpList_want _ _ _ _ _ _ _ ?hw131095 ?_
                        case hw131095 => kernel_rfl
                        intro K hK
                        go_simp
                        refine hK _ _ ?_
                        clear hK K
                        refine @BigFrame.wpList_want _ _ _ _ _ _ _ ?hw131096 ?_
                        case hw131096 => kernel_rfl
                        intro K hK
                        go_simp
                        refine hK _ _ ?_
                        clear hK K
                        refine @BigFrame.wpList_want _ _ _ _ _ _ _ ?hw131097 ?_
                        case hw131097 => kernel_rfl
                        intro K hK
                        go_simp
                        refine hK _ _ ?_
                        clear hK K
                        refine @BigFrame.wpList_want _ _ _ _ _ _ _ ?hw131090 ?_
                        case hw131090 => kernel_rfl
                        intro K hK
                        go_simp
                        go_at_call 13
                        refine (HSL.out w14 N14.out.bk N14.out.hb2 N14.out.kp).mono ?_
                        rintro e w24 ⟨rfl, q24, f24⟩
                        have N24 := Lib.hid (N14.out.book (q24.more (show nk + 3 ≤ nk + 9 by omega)) f24)
                        replace RX := Lib.hid (f24.oth _ _ _ _ RX.out (by decide) (by decide) (by decide))
                        clear q24 f24 N14 HSL
                        refine hK _ _ ?_
                        clear hK K
                        clear c65 c66
                        have kd0 : Kept w24.heap.size w24.heap.size w24 w24.drew := (Kept.refl _ _ _).drew
                        have ND := Lib.hid (N24.out.kept kd0)
                        have RD := Lib.hid (row_kept RX.out kd0)
                        have HB2 := Lib.hid ND.out.hb2
                        clear kd0
                        have HPL := Lib.hid (fun (u : World) (hu : BkFr b2 w24.drew u) => plain5_calls x.secs (.slice sad sn scp) u (HSV.out u (ND.out.world hu)) (by rw [HSN.out]; have := HS40.out; omega))
                        go_upto_region 25 with fail
                        refine wp_region_noPanic ?_
                        refine wp_region_held_drew (S := fun u => u.heap[xb]? = some (.cells XC 28 (0, 0))) (by kernel_rfl) (RD.out) (fun hH => ?_)
                        generalize w24.drew = wd at ND RD HB2 hH HPL ⊢
                        refine wpAnyH_take_ex (i := 0) 125 rfl rfl (by kernel_rfl) (by kernel_rfl) (by kernel_rfl) (fun _ _ _ _ h => h) (by kernel_rfl) hH ?_
                        apply Exists.intro
                        apply And.intro
                        · intro w9 _
                          go_simp
                          first | done | rfl
                        simp only [List.setIfInBounds_toArray, List.set_cons_zero, List.set_cons_succ]
                        refine wpAnyH_take_ex (i := 1) 126 rfl rfl (by kernel_rfl) (by kernel_rfl) (by kernel_rfl) (fun _ _ _ _ h => h) (by kernel_rfl) hH ?_
                        apply Exists.intro
                        apply And.intro
                        · intro w9 _
                          go_simp
                          first | done | rfl
                        simp only [List.setIfInBounds_toArray, List.set_cons_zero, List.set_cons_succ]
                        refine wpAnyH_take_ex (i := 2) 127 rfl rfl (by kernel_rfl) (by kernel_rfl) (by kernel_rfl) (fun _ _ _ _ h => h) (by kernel_rfl) hH ?_
                        apply Exists.intro
                        apply And.intro
                        · intro w9 h9
                          have c9 := HXSV.out w9 h9
                          go_simp
                          first | done | rfl
                        simp only [List.setIfInBounds_toArray, List.set_cons_zero, List.set_cons_succ]
                        refine wpAnyH_take_ex (i := 4) 129 rfl rfl (by kernel_rfl) (by kernel_rfl) (by kernel_rfl) (fun _ _ _ _ h => h) (by kernel_rfl) hH ?_
                        apply Exists.intro
                        apply And.intro
                        · intro w9 _
                          go_simp
                          first | done | rfl
                        simp only [List.setIfInBounds_toArray, List.set_cons_zero, List.set_cons_succ]
                        refine wpAnyH_take_at (i := 5) 130 (.agg ac) rfl rfl (by kernel_rfl) (by kernel_rfl) (by kernel_rfl) (fun _ _ _ h => h) (yieldsIf_load_known (by kernel_rfl) 26 _ rfl (xb) (1) rfl (.agg ac) (fun w9 h9 => HLA.out w9 h9)) hH ?_
                        simp only [List.setIfInBounds_toArray, List.set_cons_zero, List.set_cons_succ]
                        refine wpAnyH_each 99 (fun u u' => Kept u.heap.size u.heap.size u u') (BkFr b2) (fun _ u => InBook u b2 bb (Bk.note gs ([x.a], x.secs)) (nk + 9)) (fun i v u => (ykAt [(3, .own (x.secs)), (6, .own ([x.a])), (7, .fval (([x.a], x.secs))), (8, .frow ([([x.a], x.secs)])), (9, .ownf ([([x.a], x.secs)])), (10, .ownf ([([x.a], x.secs)]))] i).at v u) [3, 6, 7, 8, 9, 10] [(3, 128), (6, 131), (7, 132), (8, 133), (9, 134), (10, 11)] (by as_aux_lemma => kernel_rfl) (by as_aux_lemma => kernel_rfl) (by as_aux_lemma => kernel_rfl) (by as_aux_lemma => kernel_rfl) (by as_aux_lemma => kernel_rfl) (by as_aux_lemma => kernel_rfl) NoPanic.not (fun u u' h k => BkFr.ofKept (h.base HB2.out) k) (fun u u' h k => h.trans k) (fun z u u' _ h k => InBook.kept h k) (fun i v u u' _ h k => YK.bk h k) (fun u h => h.oth _ _ _ _ RD.out (by decide) (by decide) (by decide)) (BkFr.refl _ _) (ND.out.bk) ?_ ?_
                        · refine AllFree.cons [] rfl (by as_aux_lemma => kernel_rfl) (by as_aux_lemma => kernel_rfl) (fun V z u hu hz hy K hK => ?_) ?_
                          · as_aux_lemma =>
                              simp only [putAll, List.foldl, Act.put, List.setIfInBounds_toArray, List.set_cons_zero, List.set_cons_succ, List.getElem_toArray, List.getElem_cons_succ, List.getElem_cons_zero] at hK ⊢
                              have HU := Lib.hid hu
                              clear hu hy
                              clear hz
                              go_simp
                              go_wp2_with (go_at_call 14; refine (HPL.out u HU.out).mono ?_; rintro e u2 ⟨v2, rfl, o2, k2⟩)
                              exact hK.out _ _ ⟨_, rfl, k2, o2.mono (Nat.zero_le _)⟩
                          refine AllFree.cons [] rfl (by as_aux_lemma => kernel_rfl) (by as_aux_lemma => kernel_rfl) (fun V z u hu hz hy K hK => ?_) ?_
                          · as_aux_lemma =>
                              simp only [putAll, List.foldl, Act.put, List.setIfInBounds_toArray, List.set_cons_zero, List.set_cons_succ, List.getElem_toArray, List.getElem_cons_succ, List.getElem_cons_zero] at hK ⊢
                              have HU := Lib.hid hu
                              clear hu hy
                              clear hz
                              refine wp_build_one _ 33 25 rfl i0 z0 Try.underlying33 HI0.out HZ0.out ac rfl (by rw [HS0.out]; exact HZac.out) (by rw [HS0.out]; decide) (by rw [HS0.out]; decide) ?_
                              simp only [Act.put, List.setIfInBounds_toArray, List.set_cons_zero, List.set_cons_succ]
                              exact hK.out _ _ ⟨_, rfl, (Kept.refl _ _ _).alloc (Nat.le_refl _) _, HOac.out _ _ (heap_new _ _)⟩
                          refine AllFree.cons [(3, 128), (6, 131)] rfl (by as_aux_lemma => kernel_rfl) (by as_aux_lemma => kernel_rfl) (fun V z u hu hz hy K hK => ?_) ?_
                          · as_aux_lemma =>
                              rw [putAll_cons] at hK ⊢
                              simp only [List.setIfInBounds_toArray, List.set_cons_zero, List.set_cons_succ] at hK ⊢
                              rw [putAll_cons] at hK ⊢
                              simp only [List.setIfInBounds_toArray, List.set_cons_zero, List.set_cons_succ] at hK ⊢
                              rw [putAll_nil] at hK ⊢
                              simp only [Act.put, List.setIfInBounds_toArray, List.set_cons_zero, List.set_cons_succ, List.getElem_toArray, List.getElem_cons_succ, List.getElem_cons_zero] at hK
                              have y128 : Own u 0 (V 128) x.secs := hy (3, 128) (by simp)
                              generalize V 128 = v128 at y128 hK ⊢
                              have y131 : Own u 0 (V 131) [x.a] := hy (6, 131) (by simp)
                              generalize V 131 = v131 at y131 hK ⊢
                              have HU := Lib.hid hu
                              clear hu hy
                              clear hz
                              obtain ⟨oad, oc, rfl⟩ := y128.shape (n := sn) HSN.out
                              obtain ⟨iad, ic, rfl⟩ := y131.shape (n := 1) rfl
                              have Y1 := Lib.hid y128
                              have Y2 := Lib.hid y131
                              clear y128 y131
                              go_simp
                              go_wp2_with (go_at_call 8; refine (made_any5 _ _ _ _ _ _ _).mono ?_; rintro e u2 ⟨rfl, k2⟩)
                              exact hK.out _ _ ⟨_, rfl, k2, _, _, rfl, Y2.out.kept k2 (Nat.le_refl _), Y1.out.kept k2 (Nat.le_refl _)⟩
                          refine AllFree.cons [(7, 132)] rfl (by as_aux_lemma => kernel_rfl) (by as_aux_lemma => kernel_rfl) (fun V z u hu hz hy K hK => ?_) ?_
                          · as_aux_lemma =>
                              simp only [putAll, List.foldl, Act.put, List.setIfInBounds_toArray, List.set_cons_zero, List.set_cons_succ, List.getElem_toArray, List.getElem_cons_succ, List.getElem_cons_zero] at hK ⊢
                              have y132 : FVal u (V 132) ([x.a], x.secs) := hy (7, 132) (by simp)
                              generalize V 132 = v132 at y132 hK ⊢
                              have HU := Lib.hid hu
                              clear hu hy
                              clear hz
                              obtain ⟨fa, fb, rfl, ya, yb⟩ := y132
                              have YA := Lib.hid ya
                              have YB := Lib.hid yb
                              clear ya yb
                              refine wp_build_one _ 31 35 rfl iF zF Try.underlying31 HIF.out HZF.out #[fa, fb] rfl (by rw [HSF.out]; rfl) (by rw [HSF.out]; decide) (by rw [HSF.out]; decide) ?_
                              simp only [Act.put, List.setIfInBounds_toArray, List.set_cons_zero, List.set_cons_succ]
                              exact hK.out _ _ ⟨_, rfl, (Kept.refl _ _ _).alloc (Nat.le_refl _) _, frow_one (YA.out.kept ((Kept.refl _ _ _).alloc (Nat.le_refl _) _) (Nat.le_refl _)) (YB.out.kept ((Kept.refl _ _ _).alloc (Nat.le_refl _) _) (Nat.le_refl _)) (heap_new _ _)⟩
                          refine AllFree.cons [(8, 133)] rfl (by as_aux_lemma => kernel_rfl) (by as_aux_lemma => kernel_rfl) (fun V z u hu hz hy K hK => ?_) ?_
                          · as_aux_lemma =>
                              simp only [putAll, List.foldl, Act.put, List.setIfInBounds_toArray, List.set_cons_zero, List.set_cons_succ, List.getElem_toArray, List.getElem_cons_succ, List.getElem_cons_zero] at hK ⊢
                              have y133 : FRow u (V 133) [([x.a], x.secs)] := hy (8, 133) (by simp)
                              generalize V 133 = v133 at y133 hK ⊢
                              have HU := Lib.hid hu
                              clear hu hy
                              clear hz
                              obtain ⟨v9, u9, hr9, ho9, k9⟩ := y133.append (by simp only [List.length_cons, List.length_nil]; omega)
                              refine wp_append_known (.tmp 125) (.tmp 133) 31 31 31 rfl rfl (.slice none 0 0) v133 rfl rfl hr9 ?_
                              simp only [Act.put, List.setIfInBounds_toArray, List.set_cons_zero, List.set_cons_succ]
                              exact hK.out _ _ ⟨_, rfl, k9, ho9⟩
                          refine AllFree.cons [(9, 134)] rfl (by as_aux_lemma => kernel_rfl) (by as_aux_lemma => kernel_rfl) (fun V z u hu hz hy K hK => ?_) ?_
                          · as_aux_lemma =>
                              simp only [putAll, List.foldl, Act.put, List.setIfInBounds_toArray, List.set_cons_zero, List.set_cons_succ, List.getElem_toArray, List.getElem_cons_succ, List.getElem_cons_zero] at hK ⊢
                              have y134 : OwnF u 0 (V 134) [([x.a], x.secs)] := hy (9, 134) (by simp)
                              generalize V 134 = v134 at y134 hK ⊢
                              have HU := Lib.hid hu
                              clear hu hy
                              clear hz
                              have YD := Lib.hid y134
                              clear y134
                              go_simp
                              exact hK.out _ _ ⟨_, rfl, Kept.refl _ _ _, YD.out⟩
                          exact AllFree.nil
                        · as_aux_lemma =>
                            intro V u hu hz hy
                            have y11 : OwnF u 0 (V 11) [([x.a], x.secs)] := hy 10 _ rfl rfl
                            have hz1 : InBook u b2 bb (Bk.note gs ([x.a], x.secs)) (nk + 9) := hz
                            have N9 := Lib.hid (ND.out.book hz1 hu)
                            have Y11 := Lib.hid y11
                            clear hu hz hy hz1 y11
                            refine NoPanic.normal ?_
                            rw [putAll_cons]
                            simp only [List.setIfInBounds_toArray, List.set_cons_zero, List.set_cons_succ]
                            rw [putAll_cons]
                            simp only [List.setIfInBounds_toArray, List.set_cons_zero, List.set_cons_succ]
                            rw [putAll_cons]
                            simp only [List.setIfInBounds_toArray, List.set_cons_zero, List.set_cons_succ]
                            rw [putAll_cons]
                            simp only [List.setIfInBounds_toArray, List.set_cons_zero, List.set_cons_succ]
                            rw [putAll_cons]
                            simp only [List.setIfInBounds_toArray, List.set_cons_zero, List.set_cons_succ]
                            rw [putAll_cons]
                            simp only [List.setIfInBounds_toArray, List.set_cons_zero, List.set_cons_succ]
                            rw [putAll_nil]
                            generalize V 11 = v11 at Y11 ⊢
                            go_wp2
                            go_meet
                            exact ⟨v11, rfl, Lib.hid (by rw [hfx]; exact Y11.out), Lib.hid (by rw [hgx]; exact N9.out)⟩
                    by_cases hq4 : dd = 4
                    · as_aux_lemma =>
                        have hb0 : (dd == 0) = false := by simp [hq0]
                        have hb1 : (dd == 1) = false := by simp [hq1]
                        have hb2 : (dd == 2) = false := by simp [hq2]
                        have hb3 : (dd == 3) = false := by simp [hq3]
                        have hb4 : (dd == 4) = true := by simp [hq4]
                        have hfx := HFD.out
                        have hgx := HGX.out
                        rw [if_neg hq0, if_neg hq1, if_neg hq2, if_neg hq3, if_pos hq4] at hfx
                        rw [hfx] at hgx
                        simp only [List.foldl_cons, List.foldl_nil] at hgx
                        clear hq0 hq1 hq2 hq3 hq4
                        obtain ⟨xt, hxt⟩ : ∃ t, t = x.text := ⟨_, rfl⟩
                        have HXT := Lib.hid (fun (u : World) (h : u.heap[xb]? = some (.cells XC 28 (0, 0))) => (show u.cell? ⟨xb, 65, none⟩ = some (.string xt) by rw [hxt]; exact (HAT.out u h).text))
                        have HXSV := Lib.hid (fun (u : World) (h : u.heap[xb]? = some (.cells XC 28 (0, 0))) => (show u.cell? ⟨xb, 66, none⟩ = some (.slice sad sn scp) by rw [← HSN.out]; exact (HAT.out u h).secs))
                        obtain ⟨p, hp⟩ : ∃ t, t = Pm.pub x.a := ⟨_, rfl⟩
                        have hp32 : p.length = 32 := by rw [hp]; exact Pm.pub_length _
                        obtain ⟨mq, hmq⟩ : ∃ t, t = Pm.mark p := ⟨_, rfl⟩
                        have hmq32 : mq.length = 32 := by rw [hmq]; exact Pm.mark_length _
                        obtain ⟨km, hkm⟩ : ∃ t, t = Pm.kem p x.b := ⟨_, rfl⟩
                        have hkm32 : km.length = 32 := by rw [hkm]; exact Pm.kem_length _ _
                        rw [← hp, ← hmq, ← hkm] at hfx hgx
                        have HB0 := Lib.hid N14.out.hb
                        have hts : x.text.data.toList.length = x.text.size := by simp
                        have hwr : ∀ (u : World), InBook u b2 bb gs nk → b2 ≤ u.heap.size → Kept w.heap.size w.heap.size w u → Calls Try.prog 16 #[.pointer (some ⟨bb, 0, none⟩), .agg (bcells p).toArray, .agg (bcells x.b).toArray, .string ⟨#[]⟩, .string (str x.text.data.toList), .slice sad x.secs.length scp] u fun e w' => (∃ r, e = .returned (.string r)) ∧ InBook w' b2 bb (Bk.note (Bk.note (Bk.note gs ([mq], [km])) ([x.b], [km])) ([km], x.secs)) (nk + 9) ∧ BkFr b2 u w' := fun u hB hb kw => by
                          have hm1 := HRM.out.more ([mq], [km]) (by show 1 < _; decide) (by show 1 < _; decide)
                          have hm2 := hm1.more ([x.b], [km]) (by show 1 < _; decide) (by show 1 < _; decide)
                          have hk0 : ∀ w', BkFr b2 u w' → Kept w.heap.size w.heap.size w w' := fun w' ff => kw.trans (ff.kept.mono HB0.out (fun i hi _ => Nat.ne_of_lt (Nat.lt_of_lt_of_le hi HB0.out)))
                          have hs0 : ∀ w', BkFr b2 u w' → Hs w' (.slice sad x.secs.length scp) x.secs := fun w' ff => by rw [HSN.out]; exact HSV.out w' (hk0 w' ff)
                          obtain ⟨sl, hsl⟩ : ∃ sl, sl = Pm.sealed km (⟨#[]⟩ : ByteArray).data.toList x.text.data.toList := ⟨_, rfl⟩
                          have hsll : sl.length = x.text.size + 16 := by rw [hsl, Pm.sealed_length, hts]
                          have h := wrap_book b2 bb nk gs (Bk.note (Bk.note (Bk.note gs ([mq], [km])) ([x.b], [km])) ([km], x.secs)) p x.b (Lib.hid hp32) HB32 ⟨#[]⟩ x.text.data.toList sl (by have := HT200.out; omega) x.secs sad scp u hB hb HRM.out hs0 (fun w' hi hb' hh => by
                            rw [← hmq, ← hkm] at hi
                            rw [← hkm, hsl]
                            exact seal_book b2 bb (nk + 6) _ km (Lib.hid hkm32) ⟨#[]⟩ (Lib.hid (by decide)) x.text.data.toList (Lib.hid (by rw [hts]; have := HT200.out; omega)) x.secs _ w' hi hb' hm2.mild hh (fun _ _ e => HSW.out _ _ (by rw [← HSN.out]; exact e)) (by rw [HSN.out]; have := HS40.out; omega))
                          exact h.mono fun e w' hh => ⟨⟨_, hh.1⟩, hh.2.1, hh.2.2⟩
                        rw [str_of, ← hxt, HSN.out] at hwr
                        have HWR := Lib.hid hwr
                        have HRP := Lib.hid (fun (u : World) => refpub_calls x.a HA32 u)
                        have HMK := Lib.hid (fun (u : World) => refmark_calls p (Lib.hid hp32) u)
                        have HSH := Lib.hid (fun (u : World) => refshared_calls p (Lib.hid hp32) x.b (by rw [HB32.out]; decide) u)
                        rw [← hp] at HRP
                        rw [← hmq] at HMK
                        rw [← hkm] at HSH
                        have HLP := Lib.hid (fun (u : World) (b : Nat) (h : u.heap[b]? = some (.cells (bcells p).toArray 25 (0, 0))) => load_arr11 hp32 h)
                        have HLK := Lib.hid (fun (u : World) (b : Nat) (h : u.heap[b]? = some (.cells (bcells km).toArray 25 (0, 0))) => load_arr11 hkm32 h)
                        have HPI := Lib.hid (keyInfo22 hp32)
                        have HPZ := Lib.hid (keySize11 hp32)
                        have HPA := Lib.hid (bcells_all p)
                        have HKI := Lib.hid (keyInfo22 hkm32)
                        have HKZ := Lib.hid (keySize11 hkm32)
                        have HKA := Lib.hid (bcells_all km)
                        have HCV := Lib.hid (fun (u : World) (h : u.heap[xb]? = some (.cells XC 28 (0, 0))) => (show (convert 45 9 (.slice (some ⟨xb, 33, none⟩) 32 32)).run Try.prog u = .ok (.string (str x.b)) u by
                          have := conv_at u xb 33 32 x.b (fun j hj => (HAT.out u h).b j _ (bcells_get _ _ hj))
                          rwa [HB32.out] at this))
                        obtain ⟨sb, hsb⟩ : ∃ t, t = str x.b := ⟨_, rfl⟩
                        rw [← hsb] at HSH HCV
                        clear hsb hwr hts
                        have HOac := Lib.hid (fun (u : World) (q : Nat) (h : u.heap[q]? = some (.cells (bcells x.a).toArray 25 (0, 0))) => own_one5 HA32.out h)
                        have HZac := Lib.hid (show (bcells x.a).toArray.size = 32 by rw [List.size_toArray, bcells_length, HA32.out])
                        have HObc := Lib.hid (fun (u : World) (q : Nat) (h : u.heap[q]? = some (.cells (bcells x.b).toArray 25 (0, 0))) => own_one5 HB32.out h)
                        have HZbc := Lib.hid (show (bcells x.b).toArray.size = 32 by rw [List.size_toArray, bcells_length, HB32.out])
                        have HOqc := Lib.hid (fun (u : World) (q : Nat) (h : u.heap[q]? = some (.cells (bcells mq).toArray 25 (0, 0))) => own_one5 hmq32 h)
                        have HZqc := Lib.hid (show (bcells mq).toArray.size = 32 by rw [List.size_toArray, bcells_length, hmq32])
                        have HOkc := Lib.hid (fun (u : World) (q : Nat) (h : u.heap[q]? = some (.cells (bcells km).toArray 25 (0, 0))) => own_one5 hkm32 h)
                        have HZkc := Lib.hid (show (bcells km).toArray.size = 32 by rw [List.size_toArray, bcells_length, hkm32])
                        obtain ⟨ac, hac⟩ : ∃ t, t = (bcells x.a).toArray := ⟨_, rfl⟩
                        rw [← hac] at HOac HZac HLA HRP
                        clear hac
                        obtain ⟨bc, hbc⟩ : ∃ t, t = (bcells x.b).toArray := ⟨_, rfl⟩
                        rw [← hbc] at HObc HZbc HLB HWR
                        clear hbc
                        obtain ⟨qc, hqc⟩ : ∃ t, t = (bcells mq).toArray := ⟨_, rfl⟩
                        rw [← hqc] at HOqc HZqc HMK
                        clear hqc
                        obtain ⟨kc, hkc⟩ : ∃ t, t = (bcells km).toArray := ⟨_, rfl⟩
                        rw [← hkc] at HOkc HZkc HSH HLK HKI HKZ HKA
                        clear hkc
                        obtain ⟨pc, hpc⟩ : ∃ t, t = (bcells p).toArray := ⟨_, rfl⟩
                        rw [← hpc] at HWR HRP HMK HSH HLP HPI HPZ HPA
                        clear hpc
                        clear hxt hp hp32 hmq hmq32 hkm hkm32 HOac HZac
                        go_upto_region 17 with fail
                        refine wp_region_lit ?_
                        refine @BigFrame.wpList_want _ _ _ _ _ _ _ ?hw131098 ?_
                        case hw131098 => kernel_rfl
                        intro K hK
                        go_simp
                        refine hK _ _ ?_
                        clear hK K
                        refine @BigFrame.wpList_want _ _ _ _ _ _ _ ?hw131099 ?_
                        case hw131099 => kernel_rfl
                        intro K hK
                        go_simp
                        refine hK _ _ ?_
                        clear hK K
                        go_upto_region 19 with fail
                        refine wp_region_lit ?_
                        refine @BigFrame.wpList_want _ _ _ _ _ _ _ ?hw131100 ?_
                        case hw131100 => kernel_rfl
                        intro K hK
                        go_simp
                        refine hK _ _ ?_
                        clear hK K
                        refine @BigFrame.wpList_want _ _ _ _ _ _ _ ?hw131101 ?_
                        case hw131101 => kernel_rfl
                        intro K hK
                        go_simp
                        refine hK _ _ ?_
                        clear hK K
                        go_upto_region 21 with fail
                        refine wp_region_lit ?_
                        refine @BigFrame.wpList_want _ _ _ _ _ _ _ ?hw131102 ?_
                        case hw131102 => kernel_rfl
                        intro K hK
                        go_simp
                        refine hK _ _ ?_
                        clear hK K
                        refine @BigFrame.wpList_want _ _ _ _ _ _ _ ?hw131103 ?_
                        case hw131103 => kernel_rfl
                        intro K hK
                        go_simp
                        refine hK _ _ ?_
                        clear hK K
                        go_upto_region 23 with fail
                        refine wp_region_lit ?_
                        refine @BigFrame.wpList_want _ _ _ _ _ _ _ ?hw131104 ?_
                        case hw131104 => kernel_rfl
                        intro K hK
                        go_simp
                        refine hK _ _ ?_
                        clear hK K
                        refine @BigFrame.wpList_want _ _ _ _ _ _ _ ?hw131105 ?_
                        case hw131105 => kernel_rfl
                        intro K hK
                        go_simp
                        refine hK _ _ ?_
                        clear hK K
                        go_upto_region 26 with fail
                        refine wp_region_lit ?_
                        refine @BigFrame.wpList_want _ _ _ _ _ _ _ ?hw131106 ?_
                        case hw131106 => kernel_rfl
                        intro K hK
                        go_simp
                        refine hK _ _ ?_
                        clear hK K
                        refine @BigFrame.wpList_want _ _ _ _ _ _ _ ?hw131107 ?_
                        case hw131107 => kernel_rfl
                        intro K hK
                        go_simp
                        refine hK _ _ ?_
                        clear hK K
                        go_upto_region 27 with fail
                        refine wp_region_lit ?_
                        refine @BigFrame.wpList_want _ _ _ _ _ _ _ ?hw131109 ?_
                        case hw131109 => kernel_rfl
                        intro K hK
                        go_simp
                        refine hK _ _ ?_
                        clear hK K
                        refine @wpList_load_known _ _ _ _ _ _ _ ?hw131110 26 (.tmp 137) rfl (xb) (1) rfl (.agg ac) (HLA.out _ RX.out) ?_
                        case hw131110 => kernel_rfl
                        simp only [Act.put, List.setIfInBounds_toArray, List.set_cons_zero, List.set_cons_succ]
                        refine @BigFrame.wpList_want _ _ _ _ _ _ _ ?hw131108 ?_
                        case hw131108 => kernel_rfl
                        intro K hK
                        go_simp
                        go_at_call 15
                        refine (HRP.out w14).mono ?_
                        rintro e w27 ⟨rfl, k27⟩
                        have N27 := Lib.hid (N14.out.kept k27)
                        replace RX := Lib.hid (row_kept RX.out k27)
                        clear k27 N14
                        refine hK _ _ ?_
                        clear hK K
                        refine @wpL_alloc _ _ _ _ _ _ _ _ ?hw131111 25 rfl _ (alloc_arr11 _) ?_
                        case hw131111 => kernel_rfl
                        simp only [Act.put, List.setIfInBounds_toArray, List.set_cons_zero, List.set_cons_succ]
                        refine wpList_store_row rfl 25 _ _ rfl (w27.heap.size) pc rfl rfl 25 zeros32 (heap_new _ _) (HPI.out) (HPZ.out) (HPA.out) ?_
                        simp only [Act.put]
                        rw [World.setRow_alloc_new]
                        have kn : Kept w27.heap.size w27.heap.size w27 (w27.alloc (.cells pc 25)) := (Kept.refl _ _ _).alloc (Nat.le_refl _) _
                        have RP := Lib.hid (heap_new w27 (.cells pc 25))
                        have N28 := Lib.hid (N27.out.kept kn)
                        replace RX := Lib.hid (row_kept RX.out kn)
                        clear kn N27
                        generalize w27.alloc (.cells pc 25) = w28 at RP N28 RX ⊢
                        generalize w27.heap.size = pb at RP ⊢
                        have c65 := HXT.out w28 RX.out
                        have c66 := HXSV.out w28 RX.out
                        go_upto_region 28 with fail
                        refine wp_region_lit ?_
                        refine @BigFrame.wpList_want _ _ _ _ _ _ _ ?hw131113 ?_
                        case hw131113 => kernel_rfl
                        intro K hK
                        go_simp
                        refine hK _ _ ?_
                        clear hK K
                        refine @wpList_load_known _ _ _ _ _ _ _ ?hw131114 25 (.tmp 12) rfl (pb) (0) rfl (.agg pc) (HLP.out _ _ RP.out) ?_
                        case hw131114 => kernel_rfl
                        simp only [Act.put, List.setIfInBounds_toArray, List.set_cons_zero, List.set_cons_succ]
                        refine @BigFrame.wpList_want _ _ _ _ _ _ _ ?hw131115 ?_
                        case hw131115 => kernel_rfl
                        intro K hK
                        go_simp
                        refine hK _ _ ?_
                        clear hK K
                        refine @wpList_load_known _ _ _ _ _ _ _ ?hw131116 26 (.tmp 142) rfl (xb) (33) rfl (.agg bc) (HLB.out _ RX.out) ?_
                        case hw131116 => kernel_rfl
                        simp only [Act.put, List.setIfInBounds_toArray, List.set_cons_zero, List.set_cons_succ]
                        refine @BigFrame.wpList_want _ _ _ _ _ _ _ ?hw131117 ?_
                        case hw131117 => kernel_rfl
                        intro K hK
                        go_simp
                        refine hK _ _ ?_
                        clear hK K
                        refine @BigFrame.wpList_want _ _ _ _ _ _ _ ?hw131118 ?_
                        case hw131118 => kernel_rfl
                        intro K hK
                        go_simp
                        refine hK _ _ ?_
                        clear hK K
                        refine @BigFrame.wpList_want _ _ _ _ _ _ _ ?hw131119 ?_
                        case hw131119 => kernel_rfl
                        intro K hK
                        go_simp
                        refine hK _ _ ?_
                        clear hK K
                        refine @BigFrame.wpList_want _ _ _ _ _ _ _ ?hw131120 ?_
                        case hw131120 => kernel_rfl
                        intro K hK
                        go_simp
                        refine hK _ _ ?_
                        clear hK K
                        refine @BigFrame.wpList_want _ _ _ _ _ _ _ ?hw131112 ?_
                        case hw131112 => kernel_rfl
                        intro K hK
                        go_simp
                        go_at_call 16
                        refine (HWR.out w28 N28.out.bk N28.out.hb2 N28.out.kp).mono ?_
                        rintro e w29 ⟨⟨r29, rfl⟩, q29, f29⟩
                        have N29 := Lib.hid (N28.out.book q29 f29)
                        replace RX := Lib.hid (f29.oth _ _ _ _ RX.out (by decide) (by decide) (by decide))
                        replace RP := Lib.hid (f29.oth _ _ _ _ RP.out (by decide) (by decide) (by decide))
                        clear q29 f29 N28 HWR
                        refine hK _ _ ?_
                        clear hK K
                        clear c65 c66
                        go_upto_region 29 with fail
                        go_cut [13] (fun s13 wx => ∃ kb : Nat, s13 = .pointer (some ⟨kb, 0, none⟩) ∧ Hid (wx.heap[kb]? = some (.cells kc 25 (0, 0))) ∧ Hid (Kept w29.heap.size w29.heap.size w29 wx))
                        case first =>
                          as_aux_lemma =>
                            have kd0 : Kept w29.heap.size w29.heap.size w29 w29.drew := (Kept.refl _ _ _).drew
                            have RD := Lib.hid (row_kept RX.out kd0)
                            have PD := Lib.hid (row_kept RP.out kd0)
                            have KD := Lib.hid kd0
                            clear kd0
                            go_upto_region 29 with fail
                            refine wp_region_noPanic ?_
                            refine wp_region_held_drew (S := fun u => u.heap[xb]? = some (.cells XC 28 (0, 0)) ∧ u.heap[pb]? = some (.cells pc 25 (0, 0))) (by kernel_rfl) (⟨RD.out, PD.out⟩) (fun hH => ?_)
                            generalize w29.drew = wd at RD PD KD hH ⊢
                            refine wpAnyH_take_at (i := 0) 149 (.agg pc) rfl rfl (by kernel_rfl) (by kernel_rfl) (by kernel_rfl) (fun _ _ _ h => h) (yieldsIf_load_known (by kernel_rfl) 25 _ rfl (pb) (0) rfl (.agg pc) (fun w9 h9 => HLP.out w9 pb h9.2)) hH ?_
                            simp only [List.setIfInBounds_toArray, List.set_cons_zero, List.set_cons_succ]
                            refine wpAnyH_take_ex (i := 1) 150 rfl rfl (by kernel_rfl) (by kernel_rfl) (by kernel_rfl) (fun _ _ _ _ h => h) (by kernel_rfl) hH ?_
                            apply Exists.intro
                            apply And.intro
                            · intro w9 _
                              go_simp
                              first | done | rfl
                            simp only [List.setIfInBounds_toArray, List.set_cons_zero, List.set_cons_succ]
                            refine wpAnyH_take_ex (i := 2) 151 rfl rfl (by kernel_rfl) (by kernel_rfl) (by kernel_rfl) (fun _ _ _ _ h => h) (by kernel_rfl) hH ?_
                            apply Exists.intro
                            apply And.intro
                            · intro w9 _
                              go_simp
                              first | done | rfl
                            simp only [List.setIfInBounds_toArray, List.set_cons_zero, List.set_cons_succ]
                            refine wpAnyH_take_ex (i := 3) 152 rfl rfl (by kernel_rfl) (by kernel_rfl) (by kernel_rfl) (fun _ _ _ _ h => h) (by kernel_rfl) hH ?_
                            apply Exists.intro
                            apply And.intro
                            · intro w9 h9
                              have c9 := HCV.out w9 h9.1
                              go_simp
                              first | done | rfl
                            simp only [List.setIfInBounds_toArray, List.set_cons_zero, List.set_cons_succ]
                            have KR : Kept wd.heap.size wd.heap.size wd wd := Kept.refl _ _ _
                            refine wpAnyH_ready (rs := [4, 5]) (by kernel_rfl) (by simp) ?_
                            refine AllReadyH.cons rfl (fun K hK => ?_) ?_
                            · rw [if_pos (by rfl)]
                              go_simp
                              go_wp2_with (go_at_call 17; refine (HSH.out wd).mono ?_; rintro e v1 ⟨rfl, kn⟩)
                              have Qv1 := Lib.hid (row_kept RD.out kn)
                              have Pv1 := Lib.hid (row_kept PD.out kn)
                              have Kv1 := Lib.hid (KR.onto kn)
                              clear kn
                              refine hK.out _ _ ⟨Qv1.out, Pv1.out⟩ (fun hH => ?_)
                              clear hK K
                              refine wpAnyH_ready (rs := [5]) (by kernel_rfl) (by simp) ?_
                              refine AllReadyH.cons rfl (fun K hK => ?_) AllReadyH.nil
                              rw [if_pos (by rfl)]
                              refine wp_allocN 25 rfl (alloc_arr11 _) ?_
                              simp only [Act.put, List.setIfInBounds_toArray, List.set_cons_zero, List.set_cons_succ, List.getElem_toArray, List.getElem_cons_succ, List.getElem_cons_zero]
                              have kn : Kept v1.heap.size v1.heap.size v1 (v1.alloc (.cells zeros32 25)) := (Kept.refl _ _ _).alloc (Nat.le_refl _) _
                              have Zv2 := Lib.hid (heap_new v1 (.cells zeros32 25))
                              have Qv2 := Lib.hid (row_kept Qv1.out kn)
                              have Pv2 := Lib.hid (row_kept Pv1.out kn)
                              have Kv2 := Lib.hid (Kv1.out.onto kn)
                              clear kn
                              generalize v1.alloc (.cells zeros32 25) = v2 at Zv2 Qv2 Pv2 Kv2 ⊢
                              obtain ⟨kb, hkb⟩ : ∃ t, t = v1.heap.size := ⟨_, rfl⟩
                              have HSZv2 : Hid (wd.heap.size ≤ kb) := Lib.hid (by rw [hkb]; exact Kv1.out.size)
                              rw [← hkb] at Zv2 ⊢
                              clear hkb
                              refine hK.out _ _ ⟨Qv2.out, Pv2.out⟩ (fun hH => ?_)
                              clear hK K
                              refine wpAnyH_ready (rs := [6]) (by kernel_rfl) (by simp) ?_
                              refine AllReadyH.cons rfl (fun K hK => ?_) AllReadyH.nil
                              rw [if_pos (by rfl)]
                              refine wp_store_row_none11 25 _ _ rfl rfl kb kc rfl rfl 25 zeros32 Zv2.out HKI.out HKZ.out HKA.out ?_
                              have hne1 : xb ≠ kb := fun e => by have := lt_of_block RD.out; have := HSZv2.out; omega
                              have hne2 : pb ≠ kb := fun e => by have := lt_of_block PD.out; have := HSZv2.out; omega
                              refine hK.out _ _ ⟨(setRow_other v2 kb xb kc hne1).trans Qv2.out, (setRow_other v2 kb pb kc hne2).trans Pv2.out⟩ (fun hH => ?_)
                              clear hK K
                              refine wpAnyH_done (by kernel_rfl) ?_ _
                              refine NoPanic.normal ?_
                              clear hH
                              go_wp2
                              go_meet
                              exact ⟨kb, rfl, Lib.hid (setRow_heap v2 kb zeros32 kc _ _ Zv2.out), Lib.hid (KD.out.onto (kept_setRow10 Kv2.out kb HSZv2.out kc))⟩
                            refine AllReadyH.cons rfl (fun K hK => ?_) AllReadyH.nil
                            rw [if_pos (by rfl)]
                            refine wp_allocN 25 rfl (alloc_arr11 _) ?_
                            simp only [Act.put, List.setIfInBounds_toArray, List.set_cons_zero, List.set_cons_succ, List.getElem_toArray, List.getElem_cons_succ, List.getElem_cons_zero]
                            have kn : Kept wd.heap.size wd.heap.size wd (wd.alloc (.cells zeros32 25)) := (Kept.refl _ _ _).alloc (Nat.le_refl _) _
                            have Zv1 := Lib.hid (heap_new wd (.cells zeros32 25))
                            have Qv1 := Lib.hid (row_kept RD.out kn)
                            have Pv1 := Lib.hid (row_kept PD.out kn)
                            have Kv1 := Lib.hid (KR.onto kn)
                            clear kn
                            generalize wd.alloc (.cells zeros32 25) = v1 at Zv1 Qv1 Pv1 Kv1 ⊢
                            obtain ⟨kb, hkb⟩ : ∃ t, t = wd.heap.size := ⟨_, rfl⟩
                            have HSZv1 : Hid (wd.heap.size ≤ kb) := Lib.hid (by rw [hkb]; exact KR.size)
                            rw [← hkb] at Zv1 ⊢
                            clear hkb
                            refine hK.out _ _ ⟨Qv1.out, Pv1.out⟩ (fun hH => ?_)
                            clear hK K
                            refine wpAnyH_ready (rs := [4]) (by kernel_rfl) (by simp) ?_
                            refine AllReadyH.cons rfl (fun K hK => ?_) AllReadyH.nil
                            rw [if_pos (by rfl)]
                            go_simp
                            go_wp2_with (go_at_call 17; refine (HSH.out v1).mono ?_; rintro e v2 ⟨rfl, kn⟩)
                            have Qv2 := Lib.hid (row_kept Qv1.out kn)
                            have Pv2 := Lib.hid (row_kept Pv1.out kn)
                            have Kv2 := Lib.hid (Kv1.out.onto kn)
                            have Zv2 := Lib.hid (row_kept Zv1.out kn)
                            have HSZv2 := HSZv1
                            clear kn
                            refine hK.out _ _ ⟨Qv2.out, Pv2.out⟩ (fun hH => ?_)
                            clear hK K
                            refine wpAnyH_ready (rs := [6]) (by kernel_rfl) (by simp) ?_
                            refine AllReadyH.cons rfl (fun K hK => ?_) AllReadyH.nil
                            rw [if_pos (by rfl)]
                            refine wp_store_row_none11 25 _ _ rfl rfl kb kc rfl rfl 25 zeros32 Zv2.out HKI.out HKZ.out HKA.out ?_
                            have hne1 : xb ≠ kb := fun e => by have := lt_of_block RD.out; have := HSZv2.out; omega
                            have hne2 : pb ≠ kb := fun e => by have := lt_of_block PD.out; have := HSZv2.out; omega
                            refine hK.out _ _ ⟨(setRow_other v2 kb xb kc hne1).trans Qv2.out, (setRow_other v2 kb pb kc hne2).trans Pv2.out⟩ (fun hH => ?_)
                            clear hK K
                            refine wpAnyH_done (by kernel_rfl) ?_ _
                            refine NoPanic.normal ?_
                            clear hH
                            go_wp2
                            go_meet
                            exact ⟨kb, rfl, Lib.hid (setRow_heap v2 kb zeros32 kc _ _ Zv2.out), Lib.hid (KD.out.onto (kept_setRow10 Kv2.out kb HSZv2.out kc))⟩
                        case rest =>
                          as_aux_lemma =>
                            obtain ⟨kb, rfl, RK, HK30⟩ := hcut
                            have N30 := Lib.hid (N29.out.kept HK30.out)
                            replace RX := Lib.hid (row_kept RX.out HK30.out)
                            replace RP := Lib.hid (row_kept RP.out HK30.out)
                            clear N29 HK30
                            have kd0 : Kept wc.heap.size wc.heap.size wc wc.drew := (Kept.refl _ _ _).drew
                            have ND := Lib.hid (N30.out.kept kd0)
                            have RD := Lib.hid (row_kept RX.out kd0)
                            have RDP := Lib.hid (row_kept RP.out kd0)
                            have RDK := Lib.hid (row_kept RK.out kd0)
                            have HB2 := Lib.hid ND.out.hb2
                            clear kd0
                            have HPL := Lib.hid (fun (u : World) (hu : BkFr b2 wc.drew u) => plain5_calls x.secs (.slice sad sn scp) u (HSV.out u (ND.out.world hu)) (by rw [HSN.out]; have := HS40.out; omega))
                            go_upto_region 30 with fail
                            refine wp_region_noPanic ?_
                            refine wp_region_held_drew (S := fun u => u.heap[xb]? = some (.cells XC 28 (0, 0)) ∧ u.heap[pb]? = some (.cells pc 25 (0, 0)) ∧ u.heap[kb]? = some (.cells kc 25 (0, 0))) (by kernel_rfl) (⟨RD.out, RDP.out, RDK.out⟩) (fun hH => ?_)
                            generalize wc.drew = wd at ND RD RDP RDK HB2 hH HPL ⊢
                            refine wpAnyH_take_ex (i := 0) 154 rfl rfl (by kernel_rfl) (by kernel_rfl) (by kernel_rfl) (fun _ _ _ _ h => h) (by kernel_rfl) hH ?_
                            apply Exists.intro
                            apply And.intro
                            · intro w9 _
                              go_simp
                              first | done | rfl
                            simp only [List.setIfInBounds_toArray, List.set_cons_zero, List.set_cons_succ]
                            refine wpAnyH_take_at (i := 1) 155 (.agg kc) rfl rfl (by kernel_rfl) (by kernel_rfl) (by kernel_rfl) (fun _ _ _ h => h) (yieldsIf_load_known (by kernel_rfl) 25 _ rfl (kb) (0) rfl (.agg kc) (fun w9 h9 => HLK.out w9 kb h9.2.2)) hH ?_
                            simp only [List.setIfInBounds_toArray, List.set_cons_zero, List.set_cons_succ]
                            refine wpAnyH_take_at (i := 3) 157 (.agg pc) rfl rfl (by kernel_rfl) (by kernel_rfl) (by kernel_rfl) (fun _ _ _ h => h) (yieldsIf_load_known (by kernel_rfl) 25 _ rfl (pb) (0) rfl (.agg pc) (fun w9 h9 => HLP.out w9 pb h9.2.1)) hH ?_
                            simp only [List.setIfInBounds_toArray, List.set_cons_zero, List.set_cons_succ]
                            refine wpAnyH_take_at (i := 7) 161 (.agg kc) rfl rfl (by kernel_rfl) (by kernel_rfl) (by kernel_rfl) (fun _ _ _ h => h) (yieldsIf_load_known (by kernel_rfl) 25 _ rfl (kb) (0) rfl (.agg kc) (fun w9 h9 => HLK.out w9 kb h9.2.2)) hH ?_
                            simp only [List.setIfInBounds_toArray, List.set_cons_zero, List.set_cons_succ]
                            refine wpAnyH_take_ex (i := 9) 163 rfl rfl (by kernel_rfl) (by kernel_rfl) (by kernel_rfl) (fun _ _ _ _ h => h) (by kernel_rfl) hH ?_
                            apply Exists.intro
                            apply And.intro
                            · intro w9 _
                              go_simp
                              first | done | rfl
                            simp only [List.setIfInBounds_toArray, List.set_cons_zero, List.set_cons_succ]
                            refine wpAnyH_take_at (i := 10) 164 (.agg bc) rfl rfl (by kernel_rfl) (by kernel_rfl) (by kernel_rfl) (fun _ _ _ h => h) (yieldsIf_load_known (by kernel_rfl) 26 _ rfl (xb) (33) rfl (.agg bc) (fun w9 h9 => HLB.out w9 h9.1)) hH ?_
                            simp only [List.setIfInBounds_toArray, List.set_cons_zero, List.set_cons_succ]
                            refine wpAnyH_take_ex (i := 13) 167 rfl rfl (by kernel_rfl) (by kernel_rfl) (by kernel_rfl) (fun _ _ _ _ h => h) (by kernel_rfl) hH ?_
                            apply Exists.intro
                            apply And.intro
                            · intro w9 _
                              go_simp
                              first | done | rfl
                            simp only [List.setIfInBounds_toArray, List.set_cons_zero, List.set_cons_succ]
                            refine wpAnyH_take_ex (i := 14) 168 rfl rfl (by kernel_rfl) (by kernel_rfl) (by kernel_rfl) (fun _ _ _ _ h => h) (by kernel_rfl) hH ?_
                            apply Exists.intro
                            apply And.intro
                            · intro w9 h9
                              have c9 := HXSV.out w9 h9.1
                              go_simp
                              first | done | rfl
                            simp only [List.setIfInBounds_toArray, List.set_cons_zero, List.set_cons_succ]
                            refine wpAnyH_take_at (i := 16) 170 (.agg kc) rfl rfl (by kernel_rfl) (by kernel_rfl) (by kernel_rfl) (fun _ _ _ h => h) (yieldsIf_load_known (by kernel_rfl) 25 _ rfl (kb) (0) rfl (.agg kc) (fun w9 h9 => HLK.out w9 kb h9.2.2)) hH ?_
                            simp only [List.setIfInBounds_toArray, List.set_cons_zero, List.set_cons_succ]
                            refine wpAnyH_each 99 (fun u u' => Kept u.heap.size u.heap.size u u') (BkFr b2) (fun _ u => InBook u b2 bb (Bk.note (Bk.note (Bk.note gs ([mq], [km])) ([x.b], [km])) ([km], x.secs)) (nk + 9)) (fun i v u => (ykAt [(2, .own ([km])), (4, .val (.agg qc)), (5, .own ([mq])), (6, .fval (([mq], [km]))), (8, .own ([km])), (11, .own ([x.b])), (12, .fval (([x.b], [km]))), (15, .own (x.secs)), (17, .own ([km])), (18, .fval (([km], x.secs))), (19, .frow ([([mq], [km]), ([x.b], [km]), ([km], x.secs)])), (20, .ownf ([([mq], [km]), ([x.b], [km]), ([km], x.secs)])), (21, .ownf ([([mq], [km]), ([x.b], [km]), ([km], x.secs)]))] i).at v u) [2, 4, 5, 6, 8, 11, 12, 15, 17, 18, 19, 20, 21] [(2, 156), (4, 158), (5, 159), (6, 160), (8, 162), (11, 165), (12, 166), (15, 169), (17, 171), (18, 172), (19, 173), (20, 174), (21, 11)] (by as_aux_lemma => kernel_rfl) (by as_aux_lemma => kernel_rfl) (by as_aux_lemma => kernel_rfl) (by as_aux_lemma => kernel_rfl) (by as_aux_lemma => kernel_rfl) (by as_aux_lemma => kernel_rfl) NoPanic.not (fun u u' h k => BkFr.ofKept (h.base HB2.out) k) (fun u u' h k => h.trans k) (fun z u u' _ h k => InBook.kept h k) (fun i v u u' _ h k => YK.bk h k) (fun u h => ⟨h.oth _ _ _ _ RD.out (by decide) (by decide) (by decide), h.oth _ _ _ _ RDP.out (by decide) (by decide) (by decide), h.oth _ _ _ _ RDK.out (by decide) (by decide) (by decide)⟩) (BkFr.refl _ _) (ND.out.bk) ?_ ?_
                            · refine AllFree.cons [] rfl (by as_aux_lemma => kernel_rfl) (by as_aux_lemma => kernel_rfl) (fun V z u hu hz hy K hK => ?_) ?_
                              · as_aux_lemma =>
                                  simp only [putAll, List.foldl, Act.put, List.setIfInBounds_toArray, List.set_cons_zero, List.set_cons_succ, List.getElem_toArray, List.getElem_cons_succ, List.getElem_cons_zero] at hK ⊢
                                  have HU := Lib.hid hu
                                  clear hu hy
                                  clear hz
                                  refine wp_build_one _ 33 25 rfl i0 z0 Try.underlying33 HI0.out HZ0.out kc rfl (by rw [HS0.out]; exact HZkc.out) (by rw [HS0.out]; decide) (by rw [HS0.out]; decide) ?_
                                  simp only [Act.put, List.setIfInBounds_toArray, List.set_cons_zero, List.set_cons_succ]
                                  exact hK.out _ _ ⟨_, rfl, (Kept.refl _ _ _).alloc (Nat.le_refl _) _, HOkc.out _ _ (heap_new _ _)⟩
                              refine AllFree.cons [] rfl (by as_aux_lemma => kernel_rfl) (by as_aux_lemma => kernel_rfl) (fun V z u hu hz hy K hK => ?_) ?_
                              · as_aux_lemma =>
                                  simp only [putAll, List.foldl, Act.put, List.setIfInBounds_toArray, List.set_cons_zero, List.set_cons_succ, List.getElem_toArray, List.getElem_cons_succ, List.getElem_cons_zero] at hK ⊢
                                  have HU := Lib.hid hu
                                  clear hu hy
                                  clear hz
                                  go_simp
                                  go_wp2_with (go_at_call 11; refine (HMK.out u).mono ?_; rintro e u2 ⟨rfl, k2⟩)
                                  exact hK.out _ _ (⟨_, rfl, k2, rfl⟩)
                              refine AllFree.cons [(4, 158)] rfl (by as_aux_lemma => kernel_rfl) (by as_aux_lemma => kernel_rfl) (fun V z u hu hz hy K hK => ?_) ?_
                              · as_aux_lemma =>
                                  simp only [putAll, List.foldl, Act.put, List.setIfInBounds_toArray, List.set_cons_zero, List.set_cons_succ, List.getElem_toArray, List.getElem_cons_succ, List.getElem_cons_zero] at hK ⊢
                                  have y158 : (V 158) = .agg qc := hy (4, 158) (by simp)
                                  generalize V 158 = v158 at y158 hK ⊢
                                  have HU := Lib.hid hu
                                  clear hu hy
                                  clear hz
                                  subst y158
                                  refine wp_build_one _ 33 25 rfl i0 z0 Try.underlying33 HI0.out HZ0.out qc rfl (by rw [HS0.out]; exact HZqc.out) (by rw [HS0.out]; decide) (by rw [HS0.out]; decide) ?_
                                  simp only [Act.put, List.setIfInBounds_toArray, List.set_cons_zero, List.set_cons_succ]
                                  exact hK.out _ _ ⟨_, rfl, (Kept.refl _ _ _).alloc (Nat.le_refl _) _, HOqc.out _ _ (heap_new _ _)⟩
                              refine AllFree.cons [(2, 156), (5, 159)] rfl (by as_aux_lemma => kernel_rfl) (by as_aux_lemma => kernel_rfl) (fun V z u hu hz hy K hK => ?_) ?_
                              · as_aux_lemma =>
                                  rw [putAll_cons] at hK ⊢
                                  simp only [List.setIfInBounds_toArray, List.set_cons_zero, List.set_cons_succ] at hK ⊢
                                  rw [putAll_cons] at hK ⊢
                                  simp only [List.setIfInBounds_toArray, List.set_cons_zero, List.set_cons_succ] at hK ⊢
                                  rw [putAll_nil] at hK ⊢
                                  simp only [Act.put, List.setIfInBounds_toArray, List.set_cons_zero, List.set_cons_succ, List.getElem_toArray, List.getElem_cons_succ, List.getElem_cons_zero] at hK
                                  have y156 : Own u 0 (V 156) [km] := hy (2, 156) (by simp)
                                  generalize V 156 = v156 at y156 hK ⊢
                                  have y159 : Own u 0 (V 159) [mq] := hy (5, 159) (by simp)
                                  generalize V 159 = v159 at y159 hK ⊢
                                  have HU := Lib.hid hu
                                  clear hu hy
                                  clear hz
                                  obtain ⟨oad, oc, rfl⟩ := y156.shape (n := 1) rfl
                                  obtain ⟨iad, ic, rfl⟩ := y159.shape (n := 1) rfl
                                  have Y1 := Lib.hid y156
                                  have Y2 := Lib.hid y159
                                  clear y156 y159
                                  go_simp
                                  go_wp2_with (go_at_call 8; refine (made_any5 _ _ _ _ _ _ _).mono ?_; rintro e u2 ⟨rfl, k2⟩)
                                  exact hK.out _ _ ⟨_, rfl, k2, _, _, rfl, Y2.out.kept k2 (Nat.le_refl _), Y1.out.kept k2 (Nat.le_refl _)⟩
                              refine AllFree.cons [] rfl (by as_aux_lemma => kernel_rfl) (by as_aux_lemma => kernel_rfl) (fun V z u hu hz hy K hK => ?_) ?_
                              · as_aux_lemma =>
                                  simp only [putAll, List.foldl, Act.put, List.setIfInBounds_toArray, List.set_cons_zero, List.set_cons_succ, List.getElem_toArray, List.getElem_cons_succ, List.getElem_cons_zero] at hK ⊢
                                  have HU := Lib.hid hu
                                  clear hu hy
                                  clear hz
                                  refine wp_build_one _ 33 25 rfl i0 z0 Try.underlying33 HI0.out HZ0.out kc rfl (by rw [HS0.out]; exact HZkc.out) (by rw [HS0.out]; decide) (by rw [HS0.out]; decide) ?_
                                  simp only [Act.put, List.setIfInBounds_toArray, List.set_cons_zero, List.set_cons_succ]
                                  exact hK.out _ _ ⟨_, rfl, (Kept.refl _ _ _).alloc (Nat.le_refl _) _, HOkc.out _ _ (heap_new _ _)⟩
                              refine AllFree.cons [] rfl (by as_aux_lemma => kernel_rfl) (by as_aux_lemma => kernel_rfl) (fun V z u hu hz hy K hK => ?_) ?_
                              · as_aux_lemma =>
                                  simp only [putAll, List.foldl, Act.put, List.setIfInBounds_toArray, List.set_cons_zero, List.set_cons_succ, List.getElem_toArray, List.getElem_cons_succ, List.getElem_cons_zero] at hK ⊢
                                  have HU := Lib.hid hu
                                  clear hu hy
                                  clear hz
                                  refine wp_build_one _ 33 25 rfl i0 z0 Try.underlying33 HI0.out HZ0.out bc rfl (by rw [HS0.out]; exact HZbc.out) (by rw [HS0.out]; decide) (by rw [HS0.out]; decide) ?_
                                  simp only [Act.put, List.setIfInBounds_toArray, List.set_cons_zero, List.set_cons_succ]
                                  exact hK.out _ _ ⟨_, rfl, (Kept.refl _ _ _).alloc (Nat.le_refl _) _, HObc.out _ _ (heap_new _ _)⟩
                              refine AllFree.cons [(8, 162), (11, 165)] rfl (by as_aux_lemma => kernel_rfl) (by as_aux_lemma => kernel_rfl) (fun V z u hu hz hy K hK => ?_) ?_
                              · as_aux_lemma =>
                                  rw [putAll_cons] at hK ⊢
                                  simp only [List.setIfInBounds_toArray, List.set_cons_zero, List.set_cons_succ] at hK ⊢
                                  rw [putAll_cons] at hK ⊢
                                  simp only [List.setIfInBounds_toArray, List.set_cons_zero, List.set_cons_succ] at hK ⊢
                                  rw [putAll_nil] at hK ⊢
                                  simp only [Act.put, List.setIfInBounds_toArray, List.set_cons_zero, List.set_cons_succ, List.getElem_toArray, List.getElem_cons_succ, List.getElem_cons_zero] at hK
                                  have y162 : Own u 0 (V 162) [km] := hy (8, 162) (by simp)
                                  generalize V 162 = v162 at y162 hK ⊢
                                  have y165 : Own u 0 (V 165) [x.b] := hy (11, 165) (by simp)
                                  generalize V 165 = v165 at y165 hK ⊢
                                  have HU := Lib.hid hu
                                  clear hu hy
                                  clear hz
                                  obtain ⟨oad, oc, rfl⟩ := y162.shape (n := 1) rfl
                                  obtain ⟨iad, ic, rfl⟩ := y165.shape (n := 1) rfl
                                  have Y1 := Lib.hid y162
                                  have Y2 := Lib.hid y165
                                  clear y162 y165
                                  go_simp
                                  go_wp2_with (go_at_call 8; refine (made_any5 _ _ _ _ _ _ _).mono ?_; rintro e u2 ⟨rfl, k2⟩)
                                  exact hK.out _ _ ⟨_, rfl, k2, _, _, rfl, Y2.out.kept k2 (Nat.le_refl _), Y1.out.kept k2 (Nat.le_refl _)⟩
                              refine AllFree.cons [] rfl (by as_aux_lemma => kernel_rfl) (by as_aux_lemma => kernel_rfl) (fun V z u hu hz hy K hK => ?_) ?_
                              · as_aux_lemma =>
                                  simp only [putAll, List.foldl, Act.put, List.setIfInBounds_toArray, List.set_cons_zero, List.set_cons_succ, List.getElem_toArray, List.getElem_cons_succ, List.getElem_cons_zero] at hK ⊢
                                  have HU := Lib.hid hu
                                  clear hu hy
                                  clear hz
                                  go_simp
                                  go_wp2_with (go_at_call 14; refine (HPL.out u HU.out).mono ?_; rintro e u2 ⟨v2, rfl, o2, k2⟩)
                                  exact hK.out _ _ ⟨_, rfl, k2, o2.mono (Nat.zero_le _)⟩
                              refine AllFree.cons [] rfl (by as_aux_lemma => kernel_rfl) (by as_aux_lemma => kernel_rfl) (fun V z u hu hz hy K hK => ?_) ?_
                              · as_aux_lemma =>
                                  simp only [putAll, List.foldl, Act.put, List.setIfInBounds_toArray, List.set_cons_zero, List.set_cons_succ, List.getElem_toArray, List.getElem_cons_succ, List.getElem_cons_zero] at hK ⊢
                                  have HU := Lib.hid hu
                                  clear hu hy
                                  clear hz
                                  refine wp_build_one _ 33 25 rfl i0 z0 Try.underlying33 HI0.out HZ0.out kc rfl (by rw [HS0.out]; exact HZkc.out) (by rw [HS0.out]; decide) (by rw [HS0.out]; decide) ?_
                                  simp only [Act.put, List.setIfInBounds_toArray, List.set_cons_zero, List.set_cons_succ]
                                  exact hK.out _ _ ⟨_, rfl, (Kept.refl _ _ _).alloc (Nat.le_refl _) _, HOkc.out _ _ (heap_new _ _)⟩
                              refine AllFree.cons [(15, 169), (17, 171)] rfl (by as_aux_lemma => kernel_rfl) (by as_aux_lemma => kernel_rfl) (fun V z u hu hz hy K hK => ?_) ?_
                              · as_aux_lemma =>
                                  rw [putAll_cons] at hK ⊢
                                  simp only [List.setIfInBounds_toArray, List.set_cons_zero, List.set_cons_succ] at hK ⊢
                                  rw [putAll_cons] at hK ⊢
                                  simp only [List.setIfInBounds_toArray, List.set_cons_zero, List.set_cons_succ] at hK ⊢
                                  rw [putAll_nil] at hK ⊢
                                  simp only [Act.put, List.setIfInBounds_toArray, List.set_cons_zero, List.set_cons_succ, List.getElem_toArray, List.getElem_cons_succ, List.getElem_cons_zero] at hK
                                  have y169 : Own u 0 (V 169) x.secs := hy (15, 169) (by simp)
                                  generalize V 169 = v169 at y169 hK ⊢
                                  have y171 : Own u 0 (V 171) [km] := hy (17, 171) (by simp)
                                  generalize V 171 = v171 at y171 hK ⊢
                                  have HU := Lib.hid hu
                                  clear hu hy
                                  clear hz
                                  obtain ⟨oad, oc, rfl⟩ := y169.shape (n := sn) HSN.out
                                  obtain ⟨iad, ic, rfl⟩ := y171.shape (n := 1) rfl
                                  have Y1 := Lib.hid y169
                                  have Y2 := Lib.hid y171
                                  clear y169 y171
                                  go_simp
                                  go_wp2_with (go_at_call 8; refine (made_any5 _ _ _ _ _ _ _).mono ?_; rintro e u2 ⟨rfl, k2⟩)
                                  exact hK.out _ _ ⟨_, rfl, k2, _, _, rfl, Y2.out.kept k2 (Nat.le_refl _), Y1.out.kept k2 (Nat.le_refl _)⟩
                              refine AllFree.cons [(6, 160), (12, 166), (18, 172)] rfl (by as_aux_lemma => kernel_rfl) (by as_aux_lemma => kernel_rfl) (fun V z u hu hz hy K hK => ?_) ?_
                              · as_aux_lemma =>
                                  rw [putAll_cons] at hK ⊢
                                  simp only [List.setIfInBounds_toArray, List.set_cons_zero, List.set_cons_succ] at hK ⊢
                                  rw [putAll_cons] at hK ⊢
                                  simp only [List.setIfInBounds_toArray, List.set_cons_zero, List.set_cons_succ] at hK ⊢
                                  rw [putAll_cons] at hK ⊢
                                  simp only [List.setIfInBounds_toArray, List.set_cons_zero, List.set_cons_succ] at hK ⊢
                                  rw [putAll_nil] at hK ⊢
                                  simp only [Act.put, List.setIfInBounds_toArray, List.set_cons_zero, List.set_cons_succ, List.getElem_toArray, List.getElem_cons_succ, List.getElem_cons_zero] at hK
                                  have y160 : FVal u (V 160) ([mq], [km]) := hy (6, 160) (by simp)
                                  generalize V 160 = v160 at y160 hK ⊢
                                  have y166 : FVal u (V 166) ([x.b], [km]) := hy (12, 166) (by simp)
                                  generalize V 166 = v166 at y166 hK ⊢
                                  have y172 : FVal u (V 172) ([km], x.secs) := hy (18, 172) (by simp)
                                  generalize V 172 = v172 at y172 hK ⊢
                                  have HU := Lib.hid hu
                                  clear hu hy
                                  clear hz
                                  obtain ⟨fa0, fb0, rfl, ya0, yb0⟩ := y160
                                  have YA0 := Lib.hid ya0
                                  have YB0 := Lib.hid yb0
                                  clear ya0 yb0
                                  obtain ⟨fa1, fb1, rfl, ya1, yb1⟩ := y166
                                  have YA1 := Lib.hid ya1
                                  have YB1 := Lib.hid yb1
                                  clear ya1 yb1
                                  obtain ⟨fa2, fb2, rfl, ya2, yb2⟩ := y172
                                  have YA2 := Lib.hid ya2
                                  have YB2 := Lib.hid yb2
                                  clear ya2 yb2
                                  refine wp_sliceN 31 3 _ rfl #[(0, .agg #[fa0, fb0]), (1, .agg #[fa1, fb1]), (2, .agg #[fa2, fb2])] (by simp only [List.map_toArray, List.map_cons, List.map_nil]; rfl) (run_build_three u 31 35 iF zF Try.underlying31 HIF.out HZF.out #[fa0, fb0] #[fa1, fb1] #[fa2, fb2] (by rw [HSF.out]; rfl) (by rw [HSF.out]; rfl) (by rw [HSF.out]; rfl) (by rw [HSF.out]; decide) (by rw [HSF.out]; decide)) ?_
                                  simp only [Act.put, List.setIfInBounds_toArray, List.set_cons_zero, List.set_cons_succ, List.getElem_toArray, List.getElem_cons_succ, List.getElem_cons_zero]
                                  exact hK.out _ _ ⟨_, rfl, (Kept.refl _ _ _).alloc (Nat.le_refl _) _, frow_three (YA0.out.kept ((Kept.refl _ _ _).alloc (Nat.le_refl _) _) (Nat.le_refl _)) (YB0.out.kept ((Kept.refl _ _ _).alloc (Nat.le_refl _) _) (Nat.le_refl _)) (YA1.out.kept ((Kept.refl _ _ _).alloc (Nat.le_refl _) _) (Nat.le_refl _)) (YB1.out.kept ((Kept.refl _ _ _).alloc (Nat.le_refl _) _) (Nat.le_refl _)) (YA2.out.kept ((Kept.refl _ _ _).alloc (Nat.le_refl _) _) (Nat.le_refl _)) (YB2.out.kept ((Kept.refl _ _ _).alloc (Nat.le_refl _) _) (Nat.le_refl _)) (heap_new _ _)⟩
                              refine AllFree.cons [(19, 173)] rfl (by as_aux_lemma => kernel_rfl) (by as_aux_lemma => kernel_rfl) (fun V z u hu hz hy K hK => ?_) ?_
                              · as_aux_lemma =>
                                  simp only [putAll, List.foldl, Act.put, List.setIfInBounds_toArray, List.set_cons_zero, List.set_cons_succ, List.getElem_toArray, List.getElem_cons_succ, List.getElem_cons_zero] at hK ⊢
                                  have y173 : FRow u (V 173) [([mq], [km]), ([x.b], [km]), ([km], x.secs)] := hy (19, 173) (by simp)
                                  generalize V 173 = v173 at y173 hK ⊢
                                  have HU := Lib.hid hu
                                  clear hu hy
                                  clear hz
                                  obtain ⟨v9, u9, hr9, ho9, k9⟩ := y173.append (by simp only [List.length_cons, List.length_nil]; omega)
                                  refine wp_append_known (.tmp 154) (.tmp 173) 31 31 31 rfl rfl (.slice none 0 0) v173 rfl rfl hr9 ?_
                                  simp only [Act.put, List.setIfInBounds_toArray, List.set_cons_zero, List.set_cons_succ]
                                  exact hK.out _ _ ⟨_, rfl, k9, ho9⟩
                              refine AllFree.cons [(20, 174)] rfl (by as_aux_lemma => kernel_rfl) (by as_aux_lemma => kernel_rfl) (fun V z u hu hz hy K hK => ?_) ?_
                              · as_aux_lemma =>
                                  simp only [putAll, List.foldl, Act.put, List.setIfInBounds_toArray, List.set_cons_zero, List.set_cons_succ, List.getElem_toArray, List.getElem_cons_succ, List.getElem_cons_zero] at hK ⊢
                                  have y174 : OwnF u 0 (V 174) [([mq], [km]), ([x.b], [km]), ([km], x.secs)] := hy (20, 174) (by simp)
                                  generalize V 174 = v174 at y174 hK ⊢
                                  have HU := Lib.hid hu
                                  clear hu hy
                                  clear hz
                                  have YD := Lib.hid y174
                                  clear y174
                                  go_simp
                                  exact hK.out _ _ ⟨_, rfl, Kept.refl _ _ _, YD.out⟩
                              exact AllFree.nil
                            · as_aux_lemma =>
                                intro V u hu hz hy
                                have y11 : OwnF u 0 (V 11) [([mq], [km]), ([x.b], [km]), ([km], x.secs)] := hy 21 _ rfl rfl
                                have hz1 : InBook u b2 bb (Bk.note (Bk.note (Bk.note gs ([mq], [km])) ([x.b], [km])) ([km], x.secs)) (nk + 9) := hz
                                have N9 := Lib.hid (ND.out.book hz1 hu)
                                have Y11 := Lib.hid y11
                                clear hu hz hy hz1 y11
                                refine NoPanic.normal ?_
                                rw [putAll_cons]
                                simp only [List.setIfInBounds_toArray, List.set_cons_zero, List.set_cons_succ]
                                rw [putAll_cons]
                                simp only [List.setIfInBounds_toArray, List.set_cons_zero, List.set_cons_succ]
                                rw [putAll_cons]
                                simp only [List.setIfInBounds_toArray, List.set_cons_zero, List.set_cons_succ]
                                rw [putAll_cons]
                                simp only [List.setIfInBounds_toArray, List.set_cons_zero, List.set_cons_succ]
                                rw [putAll_cons]
                                simp only [List.setIfInBounds_toArray, List.set_cons_zero, List.set_cons_succ]
                                rw [putAll_cons]
                                simp only [List.setIfInBounds_toArray, List.set_cons_zero, List.set_cons_succ]
                                rw [putAll_cons]
                                simp only [List.setIfInBounds_toArray, List.set_cons_zero, List.set_cons_succ]
                                rw [putAll_cons]
                                simp only [List.setIfInBounds_toArray, List.set_cons_zero, List.set_cons_succ]
                                rw [putAll_cons]
                                simp only [List.setIfInBounds_toArray, List.set_cons_zero, List.set_cons_succ]
                                rw [putAll_cons]
                                simp only [List.setIfInBounds_toArray, List.set_cons_zero, List.set_cons_succ]
                                rw [putAll_cons]
                                simp only [List.setIfInBounds_toArray, List.set_cons_zero, List.set_cons_succ]
                                rw [putAll_cons]
                                simp only [List.setIfInBounds_toArray, List.set_cons_zero, List.set_cons_succ]
                                rw [putAll_cons]
                                simp only [List.setIfInBounds_toArray, List.set_cons_zero, List.set_cons_succ]
                                rw [putAll_nil]
                                generalize V 11 = v11 at Y11 ⊢
                                go_wp2
                                go_meet
                                exact ⟨v11, rfl, Lib.hid (by rw [hfx]; exact Y11.out), Lib.hid (by rw [hgx]; exact N9.out)⟩
                    as_aux_lemma =>
                      have hb0 : (dd == 0) = false := by simp [hq0]
                      have hb1 : (dd == 1) = false := by simp [hq1]
                      have hb2 : (dd == 2) = false := by simp [hq2]
                      have hb3 : (dd == 3) = false := by simp [hq3]
                      have hb4 : (dd == 4) = false := by simp [hq4]
                      have hfx := HFD.out
                      have hgx := HGX.out
                      rw [if_neg hq0, if_neg hq1, if_neg hq2, if_neg hq3, if_neg hq4] at hfx
                      rw [hfx] at hgx
                      simp only [List.foldl_nil] at hgx
                      go_wp2
                      go_meet
                      exact ⟨_, rfl, Lib.hid (by rw [hfx]; exact OwnF.nil _ _), Lib.hid (by rw [hgx]; exact N14.out.book (N14.out.bk.more (show nk ≤ nk + 9 by omega)) (BkFr.refl _ _))⟩
                  case rest =>
                    skip
                    obtain ⟨fv, rfl, HF9, N31⟩ := hcut
                    obtain ⟨fad9, fc9, rfl⟩ := HF9.out.shape
                    clear RX HAT HLA HLB HSV HSW HSN HS40 HT200 HA32 HB32 HFD N14 HI0 HZ0 HS0 HIF HZF HSF
                    go_upto_region 31 with fail
                    refine wp_region_lit ?_
                    refine @BigFrame.wpList_want _ _ _ _ _ _ _ ?hw131067 ?_
                    case hw131067 => kernel_rfl
                    intro K hK
                    go_simp
                    refine hK _ _ ?_
                    clear hK K
                    refine @BigFrame.wpList_want _ _ _ _ _ _ _ ?hw131068 ?_
                    case hw131068 => kernel_rfl
                    intro K hK
                    go_simp
                    refine hK _ _ ?_
                    clear hK K
                    obtain ⟨ir, zr, hir, hzr, hzsr, hsr, hbr⟩ := rows_info
                    refine @wpL_sliceN _ _ _ _ _ _ _ _ ?hw131066 32 1 _ rfl #[(0, .slice fad9 FX.length fc9)] (by simp only [List.map_toArray, List.map_cons, List.map_nil]; rfl) _ (build_nn1 wc _) ?_
                    case hw131066 => kernel_rfl
                    simp only [Act.put, List.setIfInBounds_toArray, List.set_cons_zero, List.set_cons_succ]
                    have kn : Kept wc.heap.size wc.heap.size wc (wc.alloc (.cells #[.slice fad9 FX.length fc9] 31)) := (Kept.refl _ _ _).alloc (Nat.le_refl _) _
                    have rn := heap_new wc (.cells #[.slice fad9 FX.length fc9] 31)
                    have hf1 := HF9.out.kept kn (Nat.le_refl _)
                    have N32 := Lib.hid (N31.out.kept kn)
                    obtain ⟨nv2, w33, hr33, ho33, hg33, hs33⟩ := append_nn (wc.alloc (.cells #[.slice fad9 FX.length fc9] 31)) b2 u8 LL N32.out.nn N32.out.hb2 wc.heap.size 1 _ FX hf1 (two_cellN rn) (by have := HLL.out; omega)
                    have N33 := Lib.hid (N32.out.more ho33 hg33 hs33)
                    refine wpList_append_known rfl (.tmp 175) (.tmp 177) 32 32 32 rfl rfl u8 (.slice (some ⟨wc.heap.size, 0, none⟩) 1 1) rfl rfl hr33 ?_
                    simp only [Act.put, List.setIfInBounds_toArray, List.set_cons_zero, List.set_cons_succ]
                    clear kn rn hf1 N32 N31 HF9 ho33 hg33 hs33 hr33 hir hzr hzsr hsr hbr
                    refine @BigFrame.wpList_want _ _ _ _ _ _ _ ?hw131069 ?_
                    case hw131069 => kernel_rfl
                    intro K hK
                    go_simp
                    refine hK _ _ ?_
                    clear hK K
                    have h40 := HL40.out
                    have hi9 := HLT.out
                    go_wp2
                    go_roundw
                    case rel => exact ⟨i + 1, _, rfl, (by go_num), Lib.hid HLT.out, Lib.hid (by
                      rw [HMO.out, HTK.out, ← HFX.out, ← HGX.out]
                      have h := N33.out
                      rw [HNK.out, show 9 * i + 9 = 9 * (i + 1) by omega] at h
                      exact h)⟩
                    case measure => have := HLT.out; simp [RowKit.intOf]; omega
              · have hnl : ¬ (i : Int) < (ln : Int) := by omega
                have N5 : Hid (Pn w b2 bb (9 * ln) (Pm.noted [] L) wr u8 (L.map Pm.facts)) := Lib.hid (by
                  have h := N.out
                  have e : i = ln := by have := hi.out; omega
                  rw [List.take_of_length_le (by rw [← HLN.out]; omega), e] at h
                  exact h)
                clear hlt hi N N4
                as_aux_lemma =>
                  have hfew := Pm.noted_few L (fun x hx => (HALL2.out x hx).2)
                  obtain ⟨G, hG⟩ : ∃ t, t = Pm.noted [] L := ⟨_, rfl⟩
                  obtain ⟨LX, hLX⟩ : ∃ t, t = L.map Pm.facts := ⟨_, rfl⟩
                  have hfl : LX.flatten.foldl Bk.note [] = G := by rw [hLX, hG]; rfl
                  have hLXl : LX.length = ln := by rw [hLX, List.length_map, HLN.out]
                  have h40 := HL40.out
                  have hGl : G.length ≤ 120 := by have h1 := hfew.1; rw [← hG, ← HLN.out] at h1; omega
                  have hsz : ∀ l ∈ LX, l.length ≤ 3 ∧ ∀ f ∈ l, f.1.length ≤ 2 ∧ f.2.length ≤ 41 := fun l hl => by
                    rw [hLX] at hl
                    obtain ⟨x, hx, rfl⟩ := List.mem_map.1 hl
                    exact ⟨Pm.facts_length x, fun f hf => by have h1 := Pm.facts_mem x f hf; have h2 := (HALL2.out x hx).2; omega⟩
                  rw [← hG, ← hLX] at N5
                  have hGs : ∀ f ∈ G, f.1.length ≤ 2 ∧ f.2.length ≤ 41 := fun f hf => hfew.2 f (by rw [← hG]; exact hf)
                  obtain ⟨nad, nc, rfl⟩ := N5.out.nn.shape
                  have HNN0 := N5.out.nn
                  rw [hLXl] at HNN0 ⊢
                  have HGL := Lib.hid hGl
                  have HGS := Lib.hid hGs
                  have HFL := Lib.hid hfl
                  have HLX := Lib.hid hLXl
                  have HSZ := Lib.hid hsz
                  have HBK := Lib.hid N5.out.bk
                  have HNN := Lib.hid HNN0
                  have HKW := Lib.hid N5.out.kp
                  have HFX := Lib.hid (HF.out.kept N5.out.kp)
                  have HF40' := HF40.out
                  clear hfew hfl hLXl hsz hG hLX hGl hGs N5 HNN0 HALL2 HL HAW HF HLN
                  generalize wr = wb at HBK HNN HKW HFX ⊢
                  go_upto_region 32 with fail
                  refine wp_region_lit ?_
                  refine @BigFrame.wpList_want _ _ _ _ _ _ _ ?hw131121 ?_
                  case hw131121 => kernel_rfl
                  intro K hK
                  go_simp
                  refine hK _ _ ?_
                  clear hK K
                  go_wp2
                  go_loopw [7, 14] (fun s7 s14 x => ∃ i : Nat, s14 = .int .i64 (i : Int) ∧ Hid (i ≤ ln) ∧ Hid (Kept wb.heap.size wb.heap.size wb x) ∧ Hid (OwnF x wb.heap.size s7 ((LX.take i).flatten.foldl Bk.note []))) (fun _ s14 _ => ln - (RowKit.intOf s14).toNat)
                  case atStart => exact ⟨0, rfl, Lib.hid (Nat.zero_le _), Lib.hid (Kept.refl _ _ _), Lib.hid (OwnF.nil _ _)⟩
                  case round =>
                    obtain ⟨i, rfl, hi, HK, HO⟩ := hrel
                    by_cases hlt : i < ln
                    · as_aux_lemma =>
                        have hlti : (i : Int) < (ln : Int) := by omega
                        have hi0 : ¬ (i : Int) < 0 := by omega
                        have hiX : i < LX.length := by rw [HLX.out]; exact hlt
                        obtain ⟨ng, fv, had, hng, hnc, hof⟩ := HNN.out.at i hiX
                        subst had
                        have hfs := HSZ.out LX[i] (List.getElem_mem hiX)
                        have hff := fold_flat LX i hiX
                        obtain ⟨Fi, hFi⟩ : ∃ t, t = LX[i] := ⟨_, rfl⟩
                        rw [← hFi] at hof hfs hff
                        obtain ⟨Gi, hGi⟩ : ∃ t, t = (LX.take i).flatten.foldl Bk.note [] := ⟨_, rfl⟩
                        rw [← hGi] at hff
                        have HO0 : Hid (OwnF wr wb.heap.size u7 Gi) := Lib.hid (by rw [hGi]; exact HO.out)
                        have hGib : Gi.length ≤ 120 ∧ ∀ f ∈ Gi, f.1.length ≤ 2 ∧ f.2.length ≤ 41 := by
                          rw [hGi]
                          refine ⟨?_, fun f hf => ?_⟩
                          · have h1 := Pm.fold_length (LX.take i).flatten []
                            have h2 : ∀ M : List Facts, (∀ l ∈ M, l.length ≤ 3) → M.flatten.length ≤ 3 * M.length := fun M => by
                              induction M with
                              | nil => intro _; simp
                              | cons l M ih =>
                                intro h
                                have := h l (by simp)
                                have := ih (fun k hk => h k (by simp [hk]))
                                simp only [List.flatten_cons, List.length_append, List.length_cons]
                                omega
                            have h3 := h2 (LX.take i) (fun l hl => (HSZ.out l (List.mem_of_mem_take hl)).1)
                            have h4 : (LX.take i).length ≤ i := List.length_take_le _ _
                            simp only [List.length_nil] at h1
                            omega
                          · rcases Pm.fold_mem f _ _ hf with h | h
                            · cases h
                            · obtain ⟨l, hl, hfl⟩ := List.mem_flatten.1 h
                              exact (HSZ.out l (List.mem_of_mem_take hl)).2 f hfl
                        obtain ⟨fad, fc, rfl⟩ := hof.shape
                        obtain ⟨fl, hfl⟩ : ∃ t, t = Fi.length := ⟨_, rfl⟩
                        rw [← hfl] at hof hnc
                        have HOF := Lib.hid hof
                        have HNC := Lib.hid (fun (u : World) (k : Kept wb.heap.size wb.heap.size wb u) => (k.cell (p := ⟨ng, i, none⟩) hng (Nat.ne_of_lt hng)).trans hnc)
                        have HFF := Lib.hid hff
                        have HFS := Lib.hid hfs
                        have HGB := Lib.hid hGib
                        have HLT := Lib.hid hlt
                        have HFLN := Lib.hid hfl
                        have hfl3 : fl ≤ 3 := by rw [hfl]; exact hfs.1
                        clear hof hnc hff hfs hGib hFi hGi HO hlt hi hiX hfl hng
                        go_upto_region 35 with fail
                        refine wp_region_lit ?_
                        refine @BigFrame.wpList_want _ _ _ _ _ _ _ ?hw131122 ?_
                        case hw131122 => kernel_rfl
                        intro K hK
                        go_simp
                        refine hK _ _ ?_
                        clear hK K
                        go_wp2
                        go_loopw [7, 15] (fun s7 s15 x => ∃ k : Nat, s15 = .int .i64 (k : Int) ∧ Hid (k ≤ fl) ∧ Hid (Kept wb.heap.size wb.heap.size wb x) ∧ Hid (OwnF x wb.heap.size s7 ((Fi.take k).foldl Bk.note Gi))) (fun _ s15 _ => fl - (RowKit.intOf s15).toNat)
                        case atStart => exact ⟨0, rfl, Lib.hid (Nat.zero_le _), HK, Lib.hid (by simpa using HO0.out)⟩
                        case round =>
                          obtain ⟨k, rfl, hk, HK, HO⟩ := hrel
                          have c9 := HNC.out wr HK.out
                          by_cases hlt : k < fl
                          · as_aux_lemma =>
                              have hltk : (k : Int) < (fl : Int) := by omega
                              have hk0 : ¬ (k : Int) < 0 := by omega
                              have hkF : k < Fi.length := by rw [← HFLN.out]; exact hlt
                              obtain ⟨fg, fa, fb, had, hfg, hfr, ha, hb⟩ := HOF.out.at k hkF
                              subst had
                              have hft := fold_take Fi Gi k hkF
                              have hfz := HFS.out.2 Fi[k] (List.getElem_mem hkF)
                              obtain ⟨fx, hfx⟩ : ∃ t, t = Fi[k] := ⟨_, rfl⟩
                              rw [← hfx] at ha hb hft hfz
                              obtain ⟨Gk, hGk⟩ : ∃ t, t = (Fi.take k).foldl Bk.note Gi := ⟨_, rfl⟩
                              rw [← hGk] at hft
                              have hgl : Gk.length ≤ 123 ∧ ∀ f ∈ Gk, f.1.length ≤ 2 ∧ f.2.length ≤ 41 := by
                                rw [hGk]
                                refine ⟨?_, fun f hf => ?_⟩
                                · have h1 := Pm.fold_length (Fi.take k) Gi
                                  have h2 : (Fi.take k).length ≤ k := List.length_take_le _ _
                                  have h3 := HGB.out.1
                                  omega
                                · rcases Pm.fold_mem f _ _ hf with h | h
                                  · exact HGB.out.2 f h
                                  · exact HFS.out.2 f (List.mem_of_mem_take h)
                              have hOk : OwnF wr wb.heap.size u7 Gk := by rw [hGk]; exact HO.out
                              have hrr := rangeAt_kept HK.out hfr hfg (Nat.ne_of_lt hfg)
                              obtain ⟨mad, mc, rfl⟩ := hOk.shape
                              have HNT := Lib.hid (refnote_calls Gk fx _ fa fb wr wb.heap.size hOk HK.out.size (ha.kept HK.out (Nat.le_refl _)) (hb.kept HK.out (Nat.le_refl _)) (by omega) (fun g hg => by have := hgl.2 g hg; omega) (by omega) (by omega))
                              have HRR := Lib.hid hrr
                              have HFT := Lib.hid hft
                              have HLTK := Lib.hid hlt
                              have HFI := Lib.hid (show (Try.prog.info? 35).map (·.size) = some [fa, fb].length by kernel_rfl)
                              obtain ⟨gl, hgl9⟩ : ∃ t, t = Gk.length := ⟨_, rfl⟩
                              rw [← hgl9] at HNT ⊢
                              clear ha hb hft hfz hfx hGk hgl hOk hrr hfr hfg HO hlt hk hkF hgl9
                              go_upto_region 36 with fail
                              refine wp_region_lit ?_
                              refine @BigFrame.wpList_want _ _ _ _ _ _ _ ?hw131123 ?_
                              case hw131123 => kernel_rfl
                              intro K hK
                              go_simp
                              refine hK _ _ ?_
                              clear hK K
                              refine @BigFrame.wpList_want _ _ _ _ _ _ _ ?hw131124 ?_
                              case hw131124 => kernel_rfl
                              intro K hK
                              go_simp
                              refine hK _ _ ?_
                              clear hK K
                              refine @BigFrame.wpList_want _ _ _ _ _ _ _ ?hw131125 ?_
                              case hw131125 => kernel_rfl
                              intro K hK
                              go_simp
                              refine hK _ _ ?_
                              clear hK K
                              refine @BigFrame.wpList_want _ _ _ _ _ _ _ ?hw131126 ?_
                              case hw131126 => kernel_rfl
                              intro K hK
                              go_simp
                              refine hK _ _ ?_
                              clear hK K
                              refine @BigFrame.wpList_want _ _ _ _ _ _ _ ?hw131127 ?_
                              case hw131127 => kernel_rfl
                              intro K hK
                              go_simp
                              refine hK _ _ ?_
                              clear hK K
                              refine @BigFrame.wpList_want _ _ _ _ _ _ _ ?hw131128 ?_
                              case hw131128 => kernel_rfl
                              intro K hK
                              go_simp
                              refine hK _ _ ?_
                              clear hK K
                              refine @BigFrame.wpList_want _ _ _ _ _ _ _ ?hw131129 ?_
                              case hw131129 => kernel_rfl
                              intro K hK
                              go_simp
                              refine hK _ _ ?_
                              clear hK K
                              go_upto_region 38 with fail
                              refine wp_region_lit ?_
                              refine @BigFrame.wpList_want _ _ _ _ _ _ _ ?hw131131 ?_
                              case hw131131 => kernel_rfl
                              intro K hK
                              go_simp
                              refine hK _ _ ?_
                              clear hK K
                              refine @BigFrame.wpList_want _ _ _ _ _ _ _ ?hw131132 ?_
                              case hw131132 => kernel_rfl
                              intro K hK
                              go_simp
                              refine hK _ _ ?_
                              clear hK K
                              refine @BigFrame.wpList_want _ _ _ _ _ _ _ ?hw131133 ?_
                              case hw131133 => kernel_rfl
                              intro K hK
                              go_simp
                              refine hK _ _ ?_
                              clear hK K
                              refine @BigFrame.wpList_want _ _ _ _ _ _ _ ?hw131134 ?_
                              case hw131134 => kernel_rfl
                              intro K hK
                              go_simp
                              refine hK _ _ ?_
                              clear hK K
                              refine @BigFrame.wpList_want _ _ _ _ _ _ _ ?hw131135 ?_
                              case hw131135 => kernel_rfl
                              intro K hK
                              go_simp
                              refine hK _ _ ?_
                              clear hK K
                              refine @BigFrame.wpList_want _ _ _ _ _ _ _ ?hw131136 ?_
                              case hw131136 => kernel_rfl
                              intro K hK
                              go_simp
                              refine hK _ _ ?_
                              clear hK K
                              refine @BigFrame.wpList_want _ _ _ _ _ _ _ ?hw131137 ?_
                              case hw131137 => kernel_rfl
                              intro K hK
                              go_simp
                              refine hK _ _ ?_
                              clear hK K
                              refine wpList_load_mid rfl 35 (.tmp 201) rfl fg (k * 2) rfl [fa, fb] _ HRR.out Try.underlying35 rfl HFI.out ?_
                              simp only [Act.put, List.setIfInBounds_toArray, List.set_cons_zero, List.set_cons_succ]
                              refine @BigFrame.wpList_want _ _ _ _ _ _ _ ?hw131130 ?_
                              case hw131130 => kernel_rfl
                              intro K hK
                              go_simp
                              go_at_call 18
                              refine (HNT.out).mono ?_
                              rintro e w38 ⟨v38, rfl, o38, k38, _⟩
                              have O38 := Lib.hid o38
                              have K38 := Lib.hid (HK.out.trans k38)
                              clear o38 k38 HNT HRR
                              refine hK _ _ ?_
                              clear hK K
                              refine @BigFrame.wpList_want _ _ _ _ _ _ _ ?hw131138 ?_
                              case hw131138 => kernel_rfl
                              intro K hK
                              go_simp
                              refine hK _ _ ?_
                              clear hK K
                              refine @BigFrame.wpList_want _ _ _ _ _ _ _ ?hw131139 ?_
                              case hw131139 => kernel_rfl
                              intro K hK
                              go_simp
                              refine hK _ _ ?_
                              clear hK K
                              refine @BigFrame.wpList_want _ _ _ _ _ _ _ ?hw131140 ?_
                              case hw131140 => kernel_rfl
                              intro K hK
                              go_simp
                              refine hK _ _ ?_
                              clear hK K
                              refine @BigFrame.wpList_want _ _ _ _ _ _ _ ?hw131141 ?_
                              case hw131141 => kernel_rfl
                              intro K hK
                              go_simp
                              refine hK _ _ ?_
                              clear hK K
                              clear c9
                              have hk9 := HLTK.out
                              go_wp2
                              go_roundw
                              case rel => exact ⟨k + 1, (by go_num), Lib.hid HLTK.out, K38, Lib.hid (by rw [HFT.out]; exact O38.out)⟩
                              case measure => have := HLTK.out; simp [RowKit.intOf]; omega
                          · have hnl : ¬ (k : Int) < (fl : Int) := by omega
                            have HO2 : Hid (OwnF wr wb.heap.size u7 (Fi.foldl Bk.note Gi)) := Lib.hid (by
                              have h := HO.out
                              rw [List.take_of_length_le (by rw [← HFLN.out]; omega)] at h
                              exact h)
                            clear hlt hk HO HO0
                            have hi9 := HLT.out
                            go_wp2
                            go_roundw
                            case rel => exact ⟨i + 1, (by go_num), Lib.hid HLT.out, HK, Lib.hid (by rw [HFF.out]; exact HO2.out)⟩
                            case measure => have := HLT.out; simp [RowKit.intOf]; omega
                    · have hnl : ¬ (i : Int) < (ln : Int) := by omega
                      have HO2 : Hid (OwnF wr wb.heap.size u7 G) := Lib.hid (by
                        have h := HO.out
                        have e : i = ln := by have := hi.out; omega
                        rw [List.take_of_length_le (by rw [HLX.out]; omega), HFL.out] at h
                        exact h)
                      clear hlt hi HO HNN HSZ HLX HFL
                      as_aux_lemma =>
                        obtain ⟨mad, mc, rfl⟩ := HO2.out.shape
                        have hbk := HBK.out.kept HK.out
                        have hsm : ∀ f ∈ G, f.1.length < 1000000 ∧ f.2.length < 1000000 := fun f hf => by have := HGS.out f hf; omega
                        have houts := outs_le 41 G (fun f hf => (HGS.out f hf).2)
                        have hgl := HGL.out
                        have HKW2 := Lib.hid (HKW.out.onto HK.out)
                        have HFS := Lib.hid (HFX.out.kept HK.out)
                        have hFn : F.length ≤ 40 := by rw [← HFN.out]; exact HF40.out
                        have HLEN := Lib.hid (show Calls Try.prog 19 #[.pointer (some ⟨bb, 0, none⟩)] wr fun e w' => e = .returned (.int .i64 (G.length : Nat)) ∧ w' = wr from by
                          obtain ⟨n', _, S, h3⟩ := hbk
                          exact len_calls b2 bb n' G _ S wr h3)
                        have HFO := Lib.hid (show Calls Try.prog 21 #[.pointer (some ⟨bb, 0, none⟩), .slice fad fn fc] wr fun e w' => ∃ r M, e = .returned r ∧ Hs w' r M ∧ Bk.Is G F M ∧ Kept wr.heap.size wr.heap.size wr w' from by
                          obtain ⟨n', hn', S, h3⟩ := hbk
                          exact follows_book b2 bb n' G _ S F _ wr h3 HFS.out (by omega) (by omega) (by omega) hsm)
                        have HPF := Lib.hid (fun (u : World) (k : Kept wr.heap.size wr.heap.size wr u) => plain5_calls F (.slice fad fn fc) u (HFS.out.kept k) (by omega))
                        have HRF := Lib.hid (fun (u : World) (q : Value) (k : Kept wr.heap.size wr.heap.size wr u) (hq : Hs u q F) => reffollows_calls G F (.slice mad G.length mc) q u (HO2.out.kept k (Nat.le_refl _)).fs hq (by omega) (by omega) hsm)
                        have HMB := Lib.hid (fun (M : List (List UInt8)) (hI : Bk.Is G F M) => (show M.length < 1073741824 by have := is_length hI; omega))
                        obtain ⟨gl, hgl9⟩ : ∃ t, t = G.length := ⟨_, rfl⟩
                        rw [← hgl9] at HLEN HRF ⊢
                        have hgl2 : (gl : Int) ≤ 120 := by omega
                        have hgg : ((gl : Int) == (gl : Int)) = true := by simp
                        clear hbk hsm houts hgl hFn hgl9 HBK HO2 HGL HGS HK HKW HFX
                        go_upto_region 39 with fail
                        refine wp_region_lit ?_
                        refine @BigFrame.wpList_want _ _ _ _ _ _ _ ?hw131148 ?_
                        case hw131148 => kernel_rfl
                        intro K hK
                        go_simp
                        refine hK _ _ ?_
                        clear hK K
                        refine @BigFrame.wpList_want _ _ _ _ _ _ _ ?hw131142 ?_
                        case hw131142 => kernel_rfl
                        intro K hK
                        go_simp
                        go_at_call 19
                        refine (HLEN.out).mono ?_
                        rintro e w39 ⟨rfl, rfl⟩
                        refine hK _ _ ?_
                        clear hK K
                        refine @BigFrame.wpList_want _ _ _ _ _ _ _ ?hw131149 ?_
                        case hw131149 => kernel_rfl
                        intro K hK
                        go_simp
                        refine hK _ _ ?_
                        clear hK K
                        refine @BigFrame.wpList_want _ _ _ _ _ _ _ ?hw131150 ?_
                        case hw131150 => kernel_rfl
                        intro K hK
                        go_simp
                        refine hK _ _ ?_
                        clear hK K
                        refine @BigFrame.wpList_want _ _ _ _ _ _ _ ?hw131151 ?_
                        case hw131151 => kernel_rfl
                        intro K hK
                        go_simp
                        refine hK _ _ ?_
                        clear hK K
                        refine @BigFrame.wpList_want _ _ _ _ _ _ _ ?hw131152 ?_
                        case hw131152 => kernel_rfl
                        intro K hK
                        go_simp
                        refine hK _ _ ?_
                        clear hK K
                        refine @BigFrame.wpList_want _ _ _ _ _ _ _ ?hw131153 ?_
                        case hw131153 => kernel_rfl
                        intro K hK
                        go_simp
                        refine hK _ _ ?_
                        clear hK K
                        refine @BigFrame.wpList_want _ _ _ _ _ _ _ ?hw131154 ?_
                        case hw131154 => kernel_rfl
                        intro K hK
                        go_simp
                        refine hK _ _ ?_
                        clear hK K
                        refine @BigFrame.wpList_want _ _ _ _ _ _ _ ?hw131143 ?_
                        case hw131143 => kernel_rfl
                        intro K hK
                        go_simp
                        go_at_call 21
                        refine (HFO.out).mono ?_
                        rintro e w40 ⟨r, M, rfl, hM, hI, k40⟩
                        have HI := Lib.hid hI
                        have HMM := Lib.hid hM
                        have K40 := Lib.hid k40
                        clear hM hI k40
                        refine hK _ _ ?_
                        clear hK K
                        refine @BigFrame.wpList_want _ _ _ _ _ _ _ ?hw131144 ?_
                        case hw131144 => kernel_rfl
                        intro K hK
                        go_simp
                        go_at_call 14
                        refine (plain5_calls M r w40 HMM.out (HMB.out M HI.out)).mono ?_
                        rintro e w41 ⟨pm, rfl, o41, k41⟩
                        have O41 := Lib.hid o41
                        have K41 := Lib.hid (K40.out.onto k41)
                        clear o41 k41 HMM K40
                        refine hK _ _ ?_
                        clear hK K
                        refine @BigFrame.wpList_want _ _ _ _ _ _ _ ?hw131155 ?_
                        case hw131155 => kernel_rfl
                        intro K hK
                        go_simp
                        refine hK _ _ ?_
                        clear hK K
                        refine @BigFrame.wpList_want _ _ _ _ _ _ _ ?hw131156 ?_
                        case hw131156 => kernel_rfl
                        intro K hK
                        go_simp
                        refine hK _ _ ?_
                        clear hK K
                        refine @BigFrame.wpList_want _ _ _ _ _ _ _ ?hw131145 ?_
                        case hw131145 => kernel_rfl
                        intro K hK
                        go_simp
                        go_at_call 14
                        refine (HPF.out w41 K41.out).mono ?_
                        rintro e w42 ⟨pf, rfl, o42, k42⟩
                        have O42 := Lib.hid o42
                        replace O41 := Lib.hid (O41.out.kept k42 (Nat.le_refl _))
                        have K42 := Lib.hid (K41.out.onto k42)
                        clear o42 k42 K41
                        refine hK _ _ ?_
                        clear hK K
                        refine @BigFrame.wpList_want _ _ _ _ _ _ _ ?hw131146 ?_
                        case hw131146 => kernel_rfl
                        intro K hK
                        go_simp
                        go_at_call 22
                        refine (HRF.out w42 pf K42.out O42.out.hs).mono ?_
                        rintro e w43 ⟨r2, M2, rfl, o43, hI2, k43⟩
                        have hMM : M2 = M := hI2.one HI.out
                        subst hMM
                        have O43 := Lib.hid o43
                        replace O41 := Lib.hid (O41.out.kept k43 (Nat.le_refl _))
                        have K43 := Lib.hid (K42.out.onto k43)
                        clear o43 k43 K42 O42 hI2
                        refine hK _ _ ?_
                        clear hK K
                        refine @BigFrame.wpList_want _ _ _ _ _ _ _ ?hw131147 ?_
                        case hw131147 => kernel_rfl
                        intro K hK
                        go_simp
                        go_at_call 20
                        refine (alike_calls M2 M2 pm r2 w43 O41.out.hs O43.out.hs (HMB.out M2 HI.out) (HMB.out M2 HI.out)).mono ?_
                        rintro e w44 ⟨rfl, k44⟩
                        have K44 := Lib.hid (HKW2.out.onto (K43.out.onto k44))
                        rw [alikeB_refl]
                        clear k44 K43 O41 O43
                        refine hK _ _ ?_
                        clear hK K
                        refine @BigFrame.wpList_want _ _ _ _ _ _ _ ?hw131157 ?_
                        case hw131157 => kernel_rfl
                        intro K hK
                        go_simp
                        refine hK _ _ ?_
                        clear hK K
                        refine @BigFrame.wpList_want _ _ _ _ _ _ _ ?hw131158 ?_
                        case hw131158 => kernel_rfl
                        intro K hK
                        go_simp
                        refine hK _ _ ?_
                        clear hK K
                        go_wp2
                        go_ret
                        exact ⟨rfl, K44.out⟩

end Go.Proofs.Ytohichignjjleaa
