/-
  The statement PprUnpacks: its walk.
-/
import Derived.Test.YtdnnccnicaoniaaDoorPprRefUn
import Derived.Test.YtdnnccnicaoniaaDoorPprPack
import Derived.Test.YtdnnccnicaoniaaDoorGS
import Derived.Test.YtdnnccnicaoniaaDoorPprStaysLaw

namespace Go.Proofs.YtdnnccnicaoniaaDoor
open Go.RowKit Go.Lib

theorem unpack_no (bits : Int) (hb : bits < 1 ∨ 32 < bits) (s : ByteArray) (w : World) :
    Calls Tryd.prog 15 #[.string s, .int .i64 bits] w fun e w' => e = .returned (.tuple #[.pointer none, .int .i64 1]) ∧ Kept w.heap.size w.heap.size w w' := by
  have HF := Lib.hid (fun w => fits_no bits hb w)
  clear hb
  go_enter Tryd.func15, Tryd.ntmps15
  go_wp2_with (go_at_call 19; refine (HF.out _).mono ?_; rintro e w1 ⟨rfl, hw1⟩; subst w1)
  refine bodyPost_ret (results_tmp2 rfl _ _ _) rfl ?_
  exact ⟨rfl, Kept.refl _ _ _⟩
theorem shr_min (k : Nat) (hk : k ≤ 32) : min (IntKind.u64.wrap (IntKind.i64.wrap (k : Int))).toNat 64 = k := by
  have h1 : IntKind.i64.wrap (k : Int) = (k : Int) := by rw [IntKind.wrap_i64]; omega
  have h2 : IntKind.u64.wrap (k : Int) = (k : Int) := by rw [u64_wrap]; omega
  rw [h1, h2, Int.toNat_natCast]
  omega
/-- Whether a place stands below one of these seeds. -/
def Pp.Below (bits : Nat) (ask : Int) (D : List Sd) (i : Nat) : Prop := ∃ j, ∃ hj : j < D.length, j < i ∧ 0 ≤ ask ∧ Pp.Has bits D[j] ask.toNat
theorem Pp.below_gone {bits : Nat} {ask : Int} {D L' : List Sd} {k : List UInt8} {er : Int} (hG : Pp.Good bits D) (h : Pp.Took bits D ask L' k er) (i : Nat) (hi : i = D.length) : (er != 0) = true ↔ ¬ Pp.Below bits ask D i := by
  cases h with
  | out h =>
    refine ⟨fun _ => ?_, fun _ => rfl⟩
    rintro ⟨j, hj, _, h0, h1⟩
    have h2 := Pp.stop_le (hG.1 _ (List.getElem_mem hj))
    have h3 := h1.2
    generalize 2 ^ bits = q at h h2
    omega
  | gone p e hp hn =>
    refine ⟨fun _ => ?_, fun _ => rfl⟩
    rintro ⟨j, hj, _, h0, h1⟩
    subst e
    exact hn _ (List.getElem_mem hj) (by simpa using h1)
  | took A B s p e hp he hs =>
    refine ⟨fun h => (by cases h), fun h => absurd ?_ h⟩
    subst e he hi
    refine ⟨A.length, by simp, by simp, Int.natCast_nonneg _, ?_⟩
    simpa using hs

set_option maxRecDepth 100000 in
set_option maxHeartbeats 12800000 in
theorem pprunpacks_walk (s : ByteArray) (bits ask : Int) (w : World) (ht : Tab w) :
    Calls Tryd.prog 4 #[.string s, .int .i64 bits, .int .i64 ask] w fun e w' => e = .returned (.bool true) ∧ Kept w.heap.size w.heap.size w w' := by
  have HT := Lib.hid ht
  have K0 := Lib.hid (Kept.refl w.heap.size w.heap.size w)
  clear ht
  go_enter Tryd.func4, Tryd.ntmps4
  by_cases hlen : s.size ≤ 20000
  · have hlen' : (s.size : Int) ≤ 20000 := by omega
    have HLN := Lib.hid hlen
    clear hlen
    go_upto_region 3 with (go_at_call 6; refine (ppr_awake _).mono ?_; rintro e w2 ⟨rfl, k2⟩; have K2 := Lib.hid (K0.out.next1 k2); have T2 := Lib.hid (HT.out.kept k2 HT.out.lt HT.out.lt); clear k2)
    by_cases hout : bits < 1 ∨ 32 < bits
    · have HOUT := Lib.hid hout
      refine wp_region_lit ?_
      refine @BigFrame.wpList_want _ _ _ _ _ _ _ ?hw9002 ?_
      case hw9002 => kernel_rfl
      intro K hK
      go_simp
      refine hK _ _ ?_
      clear hK K
      refine @BigFrame.wpList_want _ _ _ _ _ _ _ ?hw9003 ?_
      case hw9003 => kernel_rfl
      intro K hK
      go_simp
      refine hK _ _ ?_
      clear hK K
      refine @BigFrame.wpList_want _ _ _ _ _ _ _ ?hw9001 ?_
      case hw9001 => kernel_rfl
      intro K hK
      go_simp
      go_at_call 15
      refine (unpack_no bits HOUT.out s _).mono ?_
      rintro e w3 ⟨rfl, k3⟩
      refine hK _ _ ?_
      clear hK K
      refine @BigFrame.wpList_want _ _ _ _ _ _ _ ?hw9004 ?_
      case hw9004 => kernel_rfl
      intro K hK
      go_simp
      refine hK _ _ ?_
      clear hK K
      refine @BigFrame.wpList_want _ _ _ _ _ _ _ ?hw9005 ?_
      case hw9005 => kernel_rfl
      intro K hK
      go_simp
      refine hK _ _ ?_
      clear hK K
      refine @BigFrame.wpList_want _ _ _ _ _ _ _ ?hw9006 ?_
      case hw9006 => kernel_rfl
      intro K hK
      go_simp
      refine hK _ _ ?_
      clear hK K
      refine @BigFrame.wpList_want _ _ _ _ _ _ _ ?hw9007 ?_
      case hw9007 => kernel_rfl
      intro K hK
      go_simp
      refine hK _ _ ?_
      clear hK K
      refine @BigFrame.wpList_want _ _ _ _ _ _ _ ?hw9008 ?_
      case hw9008 => kernel_rfl
      intro K hK
      go_simp
      refine hK _ _ ?_
      clear hK K
      have K3 := Lib.hid (K2.out.next1 k3)
      clear k3
      rcases hout with h1 | h1
      · clear HOUT
        go_wp2
        go_ret
        exact ⟨rfl, K3.out⟩
      · have h2 : ¬ bits < 1 := by omega
        have h3 : bits > 32 := h1
        clear HOUT h1
        go_wp2
        go_ret
        exact ⟨rfl, K3.out⟩
    · obtain ⟨n, rfl⟩ : ∃ n : Nat, bits = (n : Int) := ⟨bits.toNat, by omega⟩
      have hn1 : 1 ≤ n := by omega
      have hn32 : n ≤ 32 := by omega
      have hb1 : ¬ (n : Int) < 1 := by omega
      have hb2 : ¬ (n : Int) > 32 := by omega
      have HN1 := Lib.hid hn1
      have HN32 := Lib.hid hn32
      clear hout hn1 hn32
      have HUN := Lib.hid (unpack_calls n HN1.out HN32.out s w2 T2.out)
      have HRU := Lib.hid (fun w => refunpack_calls n HN32.out s w)
      obtain ⟨lb, hlb⟩ : ∃ lb, lb = s.data.toList := ⟨_, rfl⟩
      rw [← hlb] at HUN
      simp only [← hlb] at HRU
      have HS := Lib.hid (show str lb = s by rw [hlb, str_of])
      clear hlb
      obtain ⟨er, her⟩ : ∃ er, er = Pp.allErr n lb := ⟨_, rfl⟩
      rw [← her] at HUN
      simp only [← her] at HRU
      have HER := Lib.hid her
      clear her
      by_cases hz : er = 0
      · subst hz
        have HU1 : Hid (Calls Tryd.prog 15 #[.string s, .int .i64 (n : Int)] w2 fun e w' => ∃ rb, e = .returned (.tuple #[.pointer (some ⟨rb, 0, none⟩), .int .i64 0]) ∧ Kept w2.heap.size w2.heap.size w2 w' ∧ ∃ sl, RowIs w' rb n sl (Pp.all n lb).1) := Lib.hid (HUN.out.mono (fun e w' h => by
          obtain ⟨k, h | h⟩ := h
          · exact absurd rfl h.1
          · obtain ⟨_, rb, h1, sl, h2⟩ := h
            exact ⟨rb, h1, k, sl, h2⟩))
        clear HUN
        refine wp_region_lit ?_
        refine @BigFrame.wpList_want _ _ _ _ _ _ _ ?hw9036 ?_
        case hw9036 => kernel_rfl
        intro K hK
        go_simp
        refine hK _ _ ?_
        clear hK K
        refine @BigFrame.wpList_want _ _ _ _ _ _ _ ?hw9037 ?_
        case hw9037 => kernel_rfl
        intro K hK
        go_simp
        refine hK _ _ ?_
        clear hK K
        refine @BigFrame.wpList_want _ _ _ _ _ _ _ ?hw9035 ?_
        case hw9035 => kernel_rfl
        intro K hK
        go_simp
        go_at_call 15
        refine (HU1.out).mono ?_
        rintro e w3 ⟨rb, rfl, k3, sl, hr3⟩
        have K3 := Lib.hid (K2.out.next1 k3)
        have HR3 := Lib.hid hr3
        have T3 := Lib.hid (T2.out.kept k3 T2.out.lt T2.out.lt)
        clear k3 hr3
        refine hK _ _ ?_
        clear hK K
        refine @BigFrame.wpList_want _ _ _ _ _ _ _ ?hw9038 ?_
        case hw9038 => kernel_rfl
        intro K hK
        go_simp
        refine hK _ _ ?_
        clear hK K
        refine @BigFrame.wpList_want _ _ _ _ _ _ _ ?hw9039 ?_
        case hw9039 => kernel_rfl
        intro K hK
        go_simp
        refine hK _ _ ?_
        clear hK K
        refine @BigFrame.wpList_want _ _ _ _ _ _ _ ?hw9040 ?_
        case hw9040 => kernel_rfl
        intro K hK
        go_simp
        refine hK _ _ ?_
        clear hK K
        refine @BigFrame.wpList_want _ _ _ _ _ _ _ ?hw9041 ?_
        case hw9041 => kernel_rfl
        intro K hK
        go_simp
        refine hK _ _ ?_
        clear hK K
        refine @BigFrame.wpList_want _ _ _ _ _ _ _ ?hw9042 ?_
        case hw9042 => kernel_rfl
        intro K hK
        go_simp
        refine hK _ _ ?_
        clear hK K
        go_upto_region 6 with fail
        refine wp_region_lit ?_
        refine @BigFrame.wpList_want _ _ _ _ _ _ _ ?hw9044 ?_
        case hw9044 => kernel_rfl
        intro K hK
        go_simp
        refine hK _ _ ?_
        clear hK K
        refine @BigFrame.wpList_want _ _ _ _ _ _ _ ?hw9045 ?_
        case hw9045 => kernel_rfl
        intro K hK
        go_simp
        refine hK _ _ ?_
        clear hK K
        refine @BigFrame.wpList_want _ _ _ _ _ _ _ ?hw9043 ?_
        case hw9043 => kernel_rfl
        intro K hK
        go_simp
        go_at_call 16
        refine (HRU.out _).mono ?_
        rintro e w4 ⟨v, rfl, k4, D, hs4, hD⟩
        have K4 := Lib.hid (K3.out.next1 k4)
        have HR4 := Lib.hid (HR3.out.kept k4)
        have T4 := Lib.hid (T3.out.kept k4 T3.out.lt T3.out.lt)
        have hD' := hD rfl
        have HAL := Lib.hid (Pp.all_ok n lb HER.out.symm)
        rw [← hD'] at HR4 HAL
        have HS4 := Lib.hid hs4
        clear k4 hD hD' hs4
        refine hK _ _ ?_
        clear hK K
        refine @BigFrame.wpList_want _ _ _ _ _ _ _ ?hw9046 ?_
        case hw9046 => kernel_rfl
        intro K hK
        go_simp
        refine hK _ _ ?_
        clear hK K
        refine @BigFrame.wpList_want _ _ _ _ _ _ _ ?hw9047 ?_
        case hw9047 => kernel_rfl
        intro K hK
        go_simp
        refine hK _ _ ?_
        clear hK K
        refine @BigFrame.wpList_want _ _ _ _ _ _ _ ?hw9048 ?_
        case hw9048 => kernel_rfl
        intro K hK
        go_simp
        refine hK _ _ ?_
        clear hK K
        refine @BigFrame.wpList_want _ _ _ _ _ _ _ ?hw9049 ?_
        case hw9049 => kernel_rfl
        intro K hK
        go_simp
        refine hK _ _ ?_
        clear hK K
        refine @BigFrame.wpList_want _ _ _ _ _ _ _ ?hw9050 ?_
        case hw9050 => kernel_rfl
        intro K hK
        go_simp
        refine hK _ _ ?_
        clear hK K
        obtain ⟨ad, g, o, c, rfl, hc, _⟩ := HS4.out
        obtain ⟨ln, hln⟩ : ∃ ln, ln = D.length := ⟨_, rfl⟩
        have HLN2 := Lib.hid hln
        have HC := Lib.hid hc
        have hln6 : (ln : Int) ≤ 65536 := by have := HAL.out.2.2; omega
        rw [← hln]
        clear hc hln
        go_upto_region 12 with fail
        go_wp2_with fail
        go_loopw [11, 12] (fun s11 s12 wr => ∃ i : Nat, s12 = .int .i64 (i : Int) ∧ ∃ th : Bool, s11 = .bool th ∧ Hid (i ≤ ln) ∧ Hid (th = true ↔ Pp.Below n ask D i) ∧ Hid (Kept w4.heap.size w4.heap.size w4 wr)) (fun _ s12 _ => ln - (RowKit.intOf s12).toNat)
        case atStart => exact ⟨0, rfl, false, rfl, Lib.hid (Nat.zero_le _), Lib.hid ⟨fun h => (by cases h), fun ⟨j, _, h, _⟩ => absurd h (Nat.not_lt_zero _)⟩, Lib.hid (Kept.refl _ _ _)⟩
        case round =>
          obtain ⟨i, rfl, th, rfl, hi, HTH, HK⟩ := hrel
          by_cases hlt : i < ln
          · have hiL : i < D.length := by rw [← HLN2.out]; exact hlt
            obtain ⟨rfl, hg, hr⟩ := HC.out i hiL
            have hlti : (i : Int) < (ln : Int) := by omega
            have hi0 : ¬ (i : Int) < 0 := by omega
            have HIN := Lib.hid (HAL.out.2.1.1 _ (List.getElem_mem hiL))
            have HHAS := Lib.hid (fun (h : 0 ≤ ask) => (show Pp.Below n ask D (i + 1) ↔ Pp.Below n ask D i ∨ Pp.Has n D[i] ask.toNat from ⟨fun ⟨j, hj, h1, h2, h3⟩ => by
                rcases Nat.lt_succ_iff_lt_or_eq.1 h1 with h4 | rfl
                · exact .inl ⟨j, hj, h4, h2, h3⟩
                · exact .inr h3, fun h1 => by
                rcases h1 with ⟨j, hj, h1, h2, h3⟩ | h1
                · exact ⟨j, hj, by omega, h2, h3⟩
                · exact ⟨i, hiL, Nat.lt_succ_self _, h, h1⟩⟩))
            have HNEG := Lib.hid (fun (h : ¬ 0 ≤ ask) => (show ∀ j, ¬ Pp.Below n ask D j from fun j ⟨_, _, _, h2, _⟩ => h h2))
            have HMON := Lib.hid (fun (h : Pp.Below n ask D i) => (show Pp.Below n ask D (i + 1) from let ⟨j, hj, h1, h2, h3⟩ := h; ⟨j, hj, Nat.lt_succ_of_lt h1, h2, h3⟩))
            have HC0 := Lib.hid (fun (x : World) (k : Kept wr.heap.size wr.heap.size wr x) => show x.cell? ⟨g, o + i * 34, none⟩ = some (.int .i64 (D[i].level : Int)) from rangeAt_kept (HK.out.next1 k) hr hg (Nat.ne_of_lt hg) 0 _ rfl)
            have HC1 := Lib.hid (fun (x : World) (k : Kept wr.heap.size wr.heap.size wr x) => show x.cell? ⟨g, o + i * 34 + 1, none⟩ = some (.int .i64 (D[i].place : Int)) from rangeAt_kept (HK.out.next1 k) hr hg (Nat.ne_of_lt hg) 1 _ rfl)
            generalize D[i] = sd at HIN HHAS HC0 HC1
            obtain ⟨lv, hlv⟩ : ∃ lv, lv = sd.level := ⟨_, rfl⟩
            obtain ⟨pc, hpc⟩ : ∃ pc, pc = sd.place := ⟨_, rfl⟩
            rw [← hlv] at HC0
            rw [← hpc] at HC1
            have HLV := Lib.hid hlv
            have HPC := Lib.hid hpc
            have hlvn : lv ≤ n := by rw [hlv]; exact HIN.out.1
            have HLT := Lib.hid hlt
            have HLVN := Lib.hid hlvn
            have HKD := Lib.hid HK.out.drew
            clear hlt hi hiL hg hr hlv hpc
            cases th with
            | true =>
              clear hlvn
              as_aux_lemma =>
                go_upto_region 15 with fail
                refine wp_region_noPanic ?_
                refine wp_region_held_drew (S := fun w' => Kept wr.heap.size wr.heap.size wr w') (by kernel_rfl) ((Kept.refl _ _ _).drew) (fun hH => ?_)
                refine wpAnyH_take_ex (i := 0) 63 rfl rfl (by kernel_rfl) (by kernel_rfl) (by kernel_rfl) (fun _ _ _ _ h => h) (by kernel_rfl) hH ?_
                apply Exists.intro
                apply And.intro
                · intro w9 _
                  go_simp
                  first | done | rfl
                simp only [List.setIfInBounds_toArray, List.set_cons_zero, List.set_cons_succ]
                refine wpAnyH_take_ex (i := 1) 64 rfl rfl (by kernel_rfl) (by kernel_rfl) (by kernel_rfl) (fun _ _ _ _ h => h) (by kernel_rfl) hH ?_
                apply Exists.intro
                apply And.intro
                · intro w9 _
                  go_simp
                  first | done | rfl
                simp only [List.setIfInBounds_toArray, List.set_cons_zero, List.set_cons_succ]
                refine wpAnyH_take_at (i := 2) 65 undef rfl rfl (by kernel_rfl) (by kernel_rfl) (by kernel_rfl) (fun _ _ _ h => h) (.inr ⟨by kernel_rfl, rfl⟩) hH ?_
                simp only [List.setIfInBounds_toArray, List.set_cons_zero, List.set_cons_succ]
                refine wpAnyH_take_at (i := 3) 66 undef rfl rfl (by kernel_rfl) (by kernel_rfl) (by kernel_rfl) (fun _ _ _ h => h) (.inr ⟨by kernel_rfl, rfl⟩) hH ?_
                simp only [List.setIfInBounds_toArray, List.set_cons_zero, List.set_cons_succ]
                refine wpAnyH_take_at (i := 4) 67 undef rfl rfl (by kernel_rfl) (by kernel_rfl) (by kernel_rfl) (fun _ _ _ h => h) (.inr ⟨by kernel_rfl, rfl⟩) hH ?_
                simp only [List.setIfInBounds_toArray, List.set_cons_zero, List.set_cons_succ]
                refine wpAnyH_take_at (i := 5) 68 undef rfl rfl (by kernel_rfl) (by kernel_rfl) (by kernel_rfl) (fun _ _ _ h => h) (.inr ⟨by kernel_rfl, rfl⟩) hH ?_
                simp only [List.setIfInBounds_toArray, List.set_cons_zero, List.set_cons_succ]
                refine wpAnyH_take_at (i := 6) 69 undef rfl rfl (by kernel_rfl) (by kernel_rfl) (by kernel_rfl) (fun _ _ _ h => h) (.inr ⟨by kernel_rfl, rfl⟩) hH ?_
                simp only [List.setIfInBounds_toArray, List.set_cons_zero, List.set_cons_succ]
                refine wpAnyH_take_at (i := 7) 70 undef rfl rfl (by kernel_rfl) (by kernel_rfl) (by kernel_rfl) (fun _ _ _ h => h) (.inr ⟨by kernel_rfl, rfl⟩) hH ?_
                simp only [List.setIfInBounds_toArray, List.set_cons_zero, List.set_cons_succ]
                refine wpAnyH_take_at (i := 8) 71 undef rfl rfl (by kernel_rfl) (by kernel_rfl) (by kernel_rfl) (fun _ _ _ h => h) (.inr ⟨by kernel_rfl, rfl⟩) hH ?_
                simp only [List.setIfInBounds_toArray, List.set_cons_zero, List.set_cons_succ]
                refine wpAnyH_take_at (i := 9) 72 undef rfl rfl (by kernel_rfl) (by kernel_rfl) (by kernel_rfl) (fun _ _ _ h => h) (.inr ⟨by kernel_rfl, rfl⟩) hH ?_
                simp only [List.setIfInBounds_toArray, List.set_cons_zero, List.set_cons_succ]
                refine wpAnyH_take_at (i := 10) 73 undef rfl rfl (by kernel_rfl) (by kernel_rfl) (by kernel_rfl) (fun _ _ _ h => h) (.inr ⟨by kernel_rfl, rfl⟩) hH ?_
                simp only [List.setIfInBounds_toArray, List.set_cons_zero, List.set_cons_succ]
                refine wpAnyH_take_at (i := 11) 74 undef rfl rfl (by kernel_rfl) (by kernel_rfl) (by kernel_rfl) (fun _ _ _ h => h) (.inr ⟨by kernel_rfl, rfl⟩) hH ?_
                simp only [List.setIfInBounds_toArray, List.set_cons_zero, List.set_cons_succ]
                refine wpAnyH_take_at (i := 12) 75 undef rfl rfl (by kernel_rfl) (by kernel_rfl) (by kernel_rfl) (fun _ _ _ h => h) (.inr ⟨by kernel_rfl, rfl⟩) hH ?_
                simp only [List.setIfInBounds_toArray, List.set_cons_zero, List.set_cons_succ]
                refine wpAnyH_take_at (i := 13) 76 undef rfl rfl (by kernel_rfl) (by kernel_rfl) (by kernel_rfl) (fun _ _ _ h => h) (.inr ⟨by kernel_rfl, rfl⟩) hH ?_
                simp only [List.setIfInBounds_toArray, List.set_cons_zero, List.set_cons_succ]
                refine wpAnyH_take_at (i := 14) 77 undef rfl rfl (by kernel_rfl) (by kernel_rfl) (by kernel_rfl) (fun _ _ _ h => h) (.inr ⟨by kernel_rfl, rfl⟩) hH ?_
                simp only [List.setIfInBounds_toArray, List.set_cons_zero, List.set_cons_succ]
                refine wpAnyH_take_at (i := 15) 78 undef rfl rfl (by kernel_rfl) (by kernel_rfl) (by kernel_rfl) (fun _ _ _ h => h) (.inr ⟨by kernel_rfl, rfl⟩) hH ?_
                simp only [List.setIfInBounds_toArray, List.set_cons_zero, List.set_cons_succ]
                refine wpAnyH_take_at (i := 16) 79 undef rfl rfl (by kernel_rfl) (by kernel_rfl) (by kernel_rfl) (fun _ _ _ h => h) (.inr ⟨by kernel_rfl, rfl⟩) hH ?_
                simp only [List.setIfInBounds_toArray, List.set_cons_zero, List.set_cons_succ]
                refine wpAnyH_take_at (i := 17) 80 undef rfl rfl (by kernel_rfl) (by kernel_rfl) (by kernel_rfl) (fun _ _ _ h => h) (.inr ⟨by kernel_rfl, rfl⟩) hH ?_
                simp only [List.setIfInBounds_toArray, List.set_cons_zero, List.set_cons_succ]
                refine wpAnyH_take_at (i := 18) 81 undef rfl rfl (by kernel_rfl) (by kernel_rfl) (by kernel_rfl) (fun _ _ _ h => h) (.inr ⟨by kernel_rfl, rfl⟩) hH ?_
                simp only [List.setIfInBounds_toArray, List.set_cons_zero, List.set_cons_succ]
                refine wpAnyH_take_at (i := 19) 82 undef rfl rfl (by kernel_rfl) (by kernel_rfl) (by kernel_rfl) (fun _ _ _ h => h) (.inr ⟨by kernel_rfl, rfl⟩) hH ?_
                simp only [List.setIfInBounds_toArray, List.set_cons_zero, List.set_cons_succ]
                refine wpAnyH_take_at (i := 20) 83 undef rfl rfl (by kernel_rfl) (by kernel_rfl) (by kernel_rfl) (fun _ _ _ h => h) (.inr ⟨by kernel_rfl, rfl⟩) hH ?_
                simp only [List.setIfInBounds_toArray, List.set_cons_zero, List.set_cons_succ]
                refine wpAnyH_take_at (i := 21) 84 undef rfl rfl (by kernel_rfl) (by kernel_rfl) (by kernel_rfl) (fun _ _ _ h => h) (.inr ⟨by kernel_rfl, rfl⟩) hH ?_
                simp only [List.setIfInBounds_toArray, List.set_cons_zero, List.set_cons_succ]
                refine wpAnyH_take_ex (i := 22) 85 rfl rfl (by kernel_rfl) (by kernel_rfl) (by kernel_rfl) (fun _ _ _ _ h => h) (by kernel_rfl) hH ?_
                apply Exists.intro
                apply And.intro
                · intro w9 _
                  go_simp
                  first | done | rfl
                simp only [List.setIfInBounds_toArray, List.set_cons_zero, List.set_cons_succ]
                refine wpAnyH_take_ex (i := 23) 11 rfl rfl (by kernel_rfl) (by kernel_rfl) (by kernel_rfl) (fun _ _ _ _ h => h) (by kernel_rfl) hH ?_
                apply Exists.intro
                apply And.intro
                · intro w9 _
                  go_simp
                  first | done | rfl
                simp only [List.setIfInBounds_toArray, List.set_cons_zero, List.set_cons_succ]
                refine wpAnyH_done (by kernel_rfl) ?_ _
                refine NoPanic.normal ?_
                go_wp2
                go_roundw
                case rel => exact ⟨i + 1, by simp, true, rfl, Lib.hid HLT.out, Lib.hid (⟨fun _ => HMON.out (HTH.out.1 rfl), fun _ => rfl⟩), HKD⟩
                case measure => have := HLT.out; simp [RowKit.intOf]; omega
            | false =>
              by_cases ha : 0 ≤ ask
              · have HA := Lib.hid ha
                have hge : ask ≥ 0 := ha
                obtain ⟨p, hp⟩ : ∃ p : Nat, ask = (p : Int) := ⟨ask.toNat, by omega⟩
                have HP := Lib.hid hp
                have hn32i : (n : Int) ≤ 32 := by have := HN32.out; omega
                have hsub : (n : Int) - (lv : Int) = ((n - lv : Nat) : Int) := by omega
                have hlv0 : (lv : Int) ≤ (n : Int) := by omega
                clear ha hlvn
                go_upto_region 15 with fail
                subst hp
                have hdv : Pp.Has n sd p ↔ p / 2 ^ (n - lv) = pc := by rw [HLV.out, HPC.out]; exact Pp.has_div
                have HDV := Lib.hid hdv
                have hmn : min (IntKind.u64.wrap (IntKind.i64.wrap ((n - lv : Nat) : Int))).toNat 64 = n - lv := shr_min (n - lv) (by have := HN32.out; omega)
                have hsr : (p : Int) / ((2 : Int) ^ (n - lv)) = ((p / 2 ^ (n - lv) : Nat) : Int) := by simp
                obtain ⟨QQ, hQQ⟩ : ∃ QQ, QQ = p / 2 ^ (n - lv) := ⟨_, rfl⟩
                rw [← hQQ] at hsr
                have HQQ := Lib.hid hQQ
                clear hdv hQQ
                by_cases heq : QQ = pc
                · have HEQ := Lib.hid heq
                  have heqi : ((QQ : Int) == (pc : Int)) = true := by rw [beq_iff_eq, heq]
                  clear heq
                  as_aux_lemma =>
                    refine wp_region_noPanic ?_
                    refine wp_region_held_drew (S := fun w' => Kept wr.heap.size wr.heap.size wr w') (by kernel_rfl) ((Kept.refl _ _ _).drew) (fun hH => ?_)
                    refine wpAnyH_take_ex (i := 0) 63 rfl rfl (by kernel_rfl) (by kernel_rfl) (by kernel_rfl) (fun _ _ _ _ h => h) (by kernel_rfl) hH ?_
                    apply Exists.intro
                    apply And.intro
                    · intro w9 _
                      go_simp
                      first | done | rfl
                    simp only [List.setIfInBounds_toArray, List.set_cons_zero, List.set_cons_succ]
                    refine wpAnyH_take_ex (i := 1) 64 rfl rfl (by kernel_rfl) (by kernel_rfl) (by kernel_rfl) (fun _ _ _ _ h => h) (by kernel_rfl) hH ?_
                    apply Exists.intro
                    apply And.intro
                    · intro w9 _
                      go_simp
                      first | done | rfl
                    simp only [List.setIfInBounds_toArray, List.set_cons_zero, List.set_cons_succ]
                    refine wpAnyH_take_ex (i := 2) 65 rfl rfl (by kernel_rfl) (by kernel_rfl) (by kernel_rfl) (fun _ _ _ _ h => h) (by kernel_rfl) hH ?_
                    apply Exists.intro
                    apply And.intro
                    · intro w9 _
                      go_simp
                      first | done | rfl
                    simp only [List.setIfInBounds_toArray, List.set_cons_zero, List.set_cons_succ]
                    refine wpAnyH_take_ex (i := 3) 66 rfl rfl (by kernel_rfl) (by kernel_rfl) (by kernel_rfl) (fun _ _ _ _ h => h) (by kernel_rfl) hH ?_
                    apply Exists.intro
                    apply And.intro
                    · intro w9 _
                      go_simp
                      first | done | rfl
                    simp only [List.setIfInBounds_toArray, List.set_cons_zero, List.set_cons_succ]
                    refine wpAnyH_take_ex (i := 4) 67 rfl rfl (by kernel_rfl) (by kernel_rfl) (by kernel_rfl) (fun _ _ _ _ h => h) (by kernel_rfl) hH ?_
                    apply Exists.intro
                    apply And.intro
                    · intro w9 _
                      go_simp
                      first | done | rfl
                    simp only [List.setIfInBounds_toArray, List.set_cons_zero, List.set_cons_succ]
                    refine wpAnyH_take_ex (i := 5) 68 rfl rfl (by kernel_rfl) (by kernel_rfl) (by kernel_rfl) (fun _ _ _ _ h => h) (by kernel_rfl) hH ?_
                    apply Exists.intro
                    apply And.intro
                    · intro w9 _
                      go_simp
                      first | done | rfl
                    simp only [List.setIfInBounds_toArray, List.set_cons_zero, List.set_cons_succ]
                    refine wpAnyH_take_ex (i := 6) 69 rfl rfl (by kernel_rfl) (by kernel_rfl) (by kernel_rfl) (fun _ _ _ _ h => h) (by kernel_rfl) hH ?_
                    apply Exists.intro
                    apply And.intro
                    · intro w9 _
                      go_simp
                      first | done | rfl
                    simp only [List.setIfInBounds_toArray, List.set_cons_zero, List.set_cons_succ]
                    refine wpAnyH_take_ex (i := 7) 70 rfl rfl (by kernel_rfl) (by kernel_rfl) (by kernel_rfl) (fun _ _ _ _ h => h) (by kernel_rfl) hH ?_
                    apply Exists.intro
                    apply And.intro
                    · intro w9 _
                      go_simp
                      first | done | rfl
                    simp only [List.setIfInBounds_toArray, List.set_cons_zero, List.set_cons_succ]
                    refine wpAnyH_take_ex (i := 8) 71 rfl rfl (by kernel_rfl) (by kernel_rfl) (by kernel_rfl) (fun _ _ _ _ h => h) (by kernel_rfl) hH ?_
                    apply Exists.intro
                    apply And.intro
                    · intro w9 _
                      go_simp
                      first | done | rfl
                    simp only [List.setIfInBounds_toArray, List.set_cons_zero, List.set_cons_succ]
                    refine wpAnyH_take_ex (i := 9) 72 rfl rfl (by kernel_rfl) (by kernel_rfl) (by kernel_rfl) (fun _ _ _ _ h => h) (by kernel_rfl) hH ?_
                    apply Exists.intro
                    apply And.intro
                    · intro w9 _
                      go_simp
                      first | done | rfl
                    simp only [List.setIfInBounds_toArray, List.set_cons_zero, List.set_cons_succ]
                    refine wpAnyH_take_ex (i := 10) 73 rfl rfl (by kernel_rfl) (by kernel_rfl) (by kernel_rfl) (fun _ _ _ _ h => h) (by kernel_rfl) hH ?_
                    apply Exists.intro
                    apply And.intro
                    · intro w9 _
                      go_simp
                      first | done | rfl
                    simp only [List.setIfInBounds_toArray, List.set_cons_zero, List.set_cons_succ]
                    refine wpAnyH_take_at (i := 11) 74 (.int .i64 (lv : Int)) rfl rfl (by kernel_rfl) (by kernel_rfl) (by kernel_rfl) (fun _ _ _ h => h) (yieldsIf_load_known (by kernel_rfl) 3 _ rfl (g) (o + i * 34) rfl (.int .i64 (lv : Int)) (fun w' hw' => load_int (HC0.out w' hw'))) hH ?_
                    simp only [List.setIfInBounds_toArray, List.set_cons_zero, List.set_cons_succ]
                    refine wpAnyH_take_ex (i := 12) 75 rfl rfl (by kernel_rfl) (by kernel_rfl) (by kernel_rfl) (fun _ _ _ _ h => h) (by kernel_rfl) hH ?_
                    apply Exists.intro
                    apply And.intro
                    · intro w9 _
                      go_simp
                      first | done | rfl
                    simp only [List.setIfInBounds_toArray, List.set_cons_zero, List.set_cons_succ]
                    refine wpAnyH_take_ex (i := 13) 76 rfl rfl (by kernel_rfl) (by kernel_rfl) (by kernel_rfl) (fun _ _ _ _ h => h) (by kernel_rfl) hH ?_
                    apply Exists.intro
                    apply And.intro
                    · intro w9 _
                      go_simp
                      first | done | rfl
                    simp only [List.setIfInBounds_toArray, List.set_cons_zero, List.set_cons_succ]
                    refine wpAnyH_take_ex (i := 14) 77 rfl rfl (by kernel_rfl) (by kernel_rfl) (by kernel_rfl) (fun _ _ _ _ h => h) (by kernel_rfl) hH ?_
                    apply Exists.intro
                    apply And.intro
                    · intro w9 _
                      go_simp
                      first | done | rfl
                    simp only [List.setIfInBounds_toArray, List.set_cons_zero, List.set_cons_succ]
                    refine wpAnyH_take_ex (i := 15) 78 rfl rfl (by kernel_rfl) (by kernel_rfl) (by kernel_rfl) (fun _ _ _ _ h => h) (by kernel_rfl) hH ?_
                    apply Exists.intro
                    apply And.intro
                    · intro w9 _
                      go_simp
                      first | done | rfl
                    simp only [List.setIfInBounds_toArray, List.set_cons_zero, List.set_cons_succ]
                    refine wpAnyH_take_ex (i := 16) 79 rfl rfl (by kernel_rfl) (by kernel_rfl) (by kernel_rfl) (fun _ _ _ _ h => h) (by kernel_rfl) hH ?_
                    apply Exists.intro
                    apply And.intro
                    · intro w9 _
                      go_simp
                      first | done | rfl
                    simp only [List.setIfInBounds_toArray, List.set_cons_zero, List.set_cons_succ]
                    refine wpAnyH_take_ex (i := 17) 80 rfl rfl (by kernel_rfl) (by kernel_rfl) (by kernel_rfl) (fun _ _ _ _ h => h) (by kernel_rfl) hH ?_
                    apply Exists.intro
                    apply And.intro
                    · intro w9 _
                      go_simp
                      first | done | rfl
                    simp only [List.setIfInBounds_toArray, List.set_cons_zero, List.set_cons_succ]
                    refine wpAnyH_take_ex (i := 18) 81 rfl rfl (by kernel_rfl) (by kernel_rfl) (by kernel_rfl) (fun _ _ _ _ h => h) (by kernel_rfl) hH ?_
                    apply Exists.intro
                    apply And.intro
                    · intro w9 _
                      go_simp
                      first | done | rfl
                    simp only [List.setIfInBounds_toArray, List.set_cons_zero, List.set_cons_succ]
                    refine wpAnyH_take_at (i := 19) 82 (.int .i64 (pc : Int)) rfl rfl (by kernel_rfl) (by kernel_rfl) (by kernel_rfl) (fun _ _ _ h => h) (yieldsIf_load_known (by kernel_rfl) 3 _ rfl (g) (o + i * 34 + 1) rfl (.int .i64 (pc : Int)) (fun w' hw' => load_int (HC1.out w' hw'))) hH ?_
                    simp only [List.setIfInBounds_toArray, List.set_cons_zero, List.set_cons_succ]
                    refine wpAnyH_take_ex (i := 20) 83 rfl rfl (by kernel_rfl) (by kernel_rfl) (by kernel_rfl) (fun _ _ _ _ h => h) (by kernel_rfl) hH ?_
                    apply Exists.intro
                    apply And.intro
                    · intro w9 _
                      go_simp
                      first | done | rfl
                    simp only [List.setIfInBounds_toArray, List.set_cons_zero, List.set_cons_succ]
                    refine wpAnyH_take_ex (i := 21) 84 rfl rfl (by kernel_rfl) (by kernel_rfl) (by kernel_rfl) (fun _ _ _ _ h => h) (by kernel_rfl) hH ?_
                    apply Exists.intro
                    apply And.intro
                    · intro w9 _
                      go_simp
                      first | done | rfl
                    simp only [List.setIfInBounds_toArray, List.set_cons_zero, List.set_cons_succ]
                    refine wpAnyH_take_ex (i := 22) 85 rfl rfl (by kernel_rfl) (by kernel_rfl) (by kernel_rfl) (fun _ _ _ _ h => h) (by kernel_rfl) hH ?_
                    apply Exists.intro
                    apply And.intro
                    · intro w9 _
                      go_simp
                      first | done | rfl
                    simp only [List.setIfInBounds_toArray, List.set_cons_zero, List.set_cons_succ]
                    refine wpAnyH_take_ex (i := 23) 11 rfl rfl (by kernel_rfl) (by kernel_rfl) (by kernel_rfl) (fun _ _ _ _ h => h) (by kernel_rfl) hH ?_
                    apply Exists.intro
                    apply And.intro
                    · intro w9 _
                      go_simp
                      first | done | rfl
                    simp only [List.setIfInBounds_toArray, List.set_cons_zero, List.set_cons_succ]
                    refine wpAnyH_done (by kernel_rfl) ?_ _
                    refine NoPanic.normal ?_
                    go_wp2
                    go_roundw
                    case rel => exact ⟨i + 1, by simp, true, rfl, Lib.hid HLT.out, Lib.hid (⟨fun _ => (HHAS.out HA.out).2 (.inr (by rw [Int.toNat_natCast]; exact HDV.out.2 (by rw [← HQQ.out]; exact HEQ.out))), fun _ => rfl⟩), HKD⟩
                    case measure => have := HLT.out; simp [RowKit.intOf]; omega
                · have HEQ := Lib.hid heq
                  have heqi : ((QQ : Int) == (pc : Int)) = false := by rw [beq_eq_false_iff_ne]; omega
                  clear heq
                  as_aux_lemma =>
                    refine wp_region_noPanic ?_
                    refine wp_region_held_drew (S := fun w' => Kept wr.heap.size wr.heap.size wr w') (by kernel_rfl) ((Kept.refl _ _ _).drew) (fun hH => ?_)
                    refine wpAnyH_take_ex (i := 0) 63 rfl rfl (by kernel_rfl) (by kernel_rfl) (by kernel_rfl) (fun _ _ _ _ h => h) (by kernel_rfl) hH ?_
                    apply Exists.intro
                    apply And.intro
                    · intro w9 _
                      go_simp
                      first | done | rfl
                    simp only [List.setIfInBounds_toArray, List.set_cons_zero, List.set_cons_succ]
                    refine wpAnyH_take_ex (i := 1) 64 rfl rfl (by kernel_rfl) (by kernel_rfl) (by kernel_rfl) (fun _ _ _ _ h => h) (by kernel_rfl) hH ?_
                    apply Exists.intro
                    apply And.intro
                    · intro w9 _
                      go_simp
                      first | done | rfl
                    simp only [List.setIfInBounds_toArray, List.set_cons_zero, List.set_cons_succ]
                    refine wpAnyH_take_ex (i := 2) 65 rfl rfl (by kernel_rfl) (by kernel_rfl) (by kernel_rfl) (fun _ _ _ _ h => h) (by kernel_rfl) hH ?_
                    apply Exists.intro
                    apply And.intro
                    · intro w9 _
                      go_simp
                      first | done | rfl
                    simp only [List.setIfInBounds_toArray, List.set_cons_zero, List.set_cons_succ]
                    refine wpAnyH_take_ex (i := 3) 66 rfl rfl (by kernel_rfl) (by kernel_rfl) (by kernel_rfl) (fun _ _ _ _ h => h) (by kernel_rfl) hH ?_
                    apply Exists.intro
                    apply And.intro
                    · intro w9 _
                      go_simp
                      first | done | rfl
                    simp only [List.setIfInBounds_toArray, List.set_cons_zero, List.set_cons_succ]
                    refine wpAnyH_take_ex (i := 4) 67 rfl rfl (by kernel_rfl) (by kernel_rfl) (by kernel_rfl) (fun _ _ _ _ h => h) (by kernel_rfl) hH ?_
                    apply Exists.intro
                    apply And.intro
                    · intro w9 _
                      go_simp
                      first | done | rfl
                    simp only [List.setIfInBounds_toArray, List.set_cons_zero, List.set_cons_succ]
                    refine wpAnyH_take_ex (i := 5) 68 rfl rfl (by kernel_rfl) (by kernel_rfl) (by kernel_rfl) (fun _ _ _ _ h => h) (by kernel_rfl) hH ?_
                    apply Exists.intro
                    apply And.intro
                    · intro w9 _
                      go_simp
                      first | done | rfl
                    simp only [List.setIfInBounds_toArray, List.set_cons_zero, List.set_cons_succ]
                    refine wpAnyH_take_ex (i := 6) 69 rfl rfl (by kernel_rfl) (by kernel_rfl) (by kernel_rfl) (fun _ _ _ _ h => h) (by kernel_rfl) hH ?_
                    apply Exists.intro
                    apply And.intro
                    · intro w9 _
                      go_simp
                      first | done | rfl
                    simp only [List.setIfInBounds_toArray, List.set_cons_zero, List.set_cons_succ]
                    refine wpAnyH_take_ex (i := 7) 70 rfl rfl (by kernel_rfl) (by kernel_rfl) (by kernel_rfl) (fun _ _ _ _ h => h) (by kernel_rfl) hH ?_
                    apply Exists.intro
                    apply And.intro
                    · intro w9 _
                      go_simp
                      first | done | rfl
                    simp only [List.setIfInBounds_toArray, List.set_cons_zero, List.set_cons_succ]
                    refine wpAnyH_take_ex (i := 8) 71 rfl rfl (by kernel_rfl) (by kernel_rfl) (by kernel_rfl) (fun _ _ _ _ h => h) (by kernel_rfl) hH ?_
                    apply Exists.intro
                    apply And.intro
                    · intro w9 _
                      go_simp
                      first | done | rfl
                    simp only [List.setIfInBounds_toArray, List.set_cons_zero, List.set_cons_succ]
                    refine wpAnyH_take_ex (i := 9) 72 rfl rfl (by kernel_rfl) (by kernel_rfl) (by kernel_rfl) (fun _ _ _ _ h => h) (by kernel_rfl) hH ?_
                    apply Exists.intro
                    apply And.intro
                    · intro w9 _
                      go_simp
                      first | done | rfl
                    simp only [List.setIfInBounds_toArray, List.set_cons_zero, List.set_cons_succ]
                    refine wpAnyH_take_ex (i := 10) 73 rfl rfl (by kernel_rfl) (by kernel_rfl) (by kernel_rfl) (fun _ _ _ _ h => h) (by kernel_rfl) hH ?_
                    apply Exists.intro
                    apply And.intro
                    · intro w9 _
                      go_simp
                      first | done | rfl
                    simp only [List.setIfInBounds_toArray, List.set_cons_zero, List.set_cons_succ]
                    refine wpAnyH_take_at (i := 11) 74 (.int .i64 (lv : Int)) rfl rfl (by kernel_rfl) (by kernel_rfl) (by kernel_rfl) (fun _ _ _ h => h) (yieldsIf_load_known (by kernel_rfl) 3 _ rfl (g) (o + i * 34) rfl (.int .i64 (lv : Int)) (fun w' hw' => load_int (HC0.out w' hw'))) hH ?_
                    simp only [List.setIfInBounds_toArray, List.set_cons_zero, List.set_cons_succ]
                    refine wpAnyH_take_ex (i := 12) 75 rfl rfl (by kernel_rfl) (by kernel_rfl) (by kernel_rfl) (fun _ _ _ _ h => h) (by kernel_rfl) hH ?_
                    apply Exists.intro
                    apply And.intro
                    · intro w9 _
                      go_simp
                      first | done | rfl
                    simp only [List.setIfInBounds_toArray, List.set_cons_zero, List.set_cons_succ]
                    refine wpAnyH_take_ex (i := 13) 76 rfl rfl (by kernel_rfl) (by kernel_rfl) (by kernel_rfl) (fun _ _ _ _ h => h) (by kernel_rfl) hH ?_
                    apply Exists.intro
                    apply And.intro
                    · intro w9 _
                      go_simp
                      first | done | rfl
                    simp only [List.setIfInBounds_toArray, List.set_cons_zero, List.set_cons_succ]
                    refine wpAnyH_take_ex (i := 14) 77 rfl rfl (by kernel_rfl) (by kernel_rfl) (by kernel_rfl) (fun _ _ _ _ h => h) (by kernel_rfl) hH ?_
                    apply Exists.intro
                    apply And.intro
                    · intro w9 _
                      go_simp
                      first | done | rfl
                    simp only [List.setIfInBounds_toArray, List.set_cons_zero, List.set_cons_succ]
                    refine wpAnyH_take_ex (i := 15) 78 rfl rfl (by kernel_rfl) (by kernel_rfl) (by kernel_rfl) (fun _ _ _ _ h => h) (by kernel_rfl) hH ?_
                    apply Exists.intro
                    apply And.intro
                    · intro w9 _
                      go_simp
                      first | done | rfl
                    simp only [List.setIfInBounds_toArray, List.set_cons_zero, List.set_cons_succ]
                    refine wpAnyH_take_ex (i := 16) 79 rfl rfl (by kernel_rfl) (by kernel_rfl) (by kernel_rfl) (fun _ _ _ _ h => h) (by kernel_rfl) hH ?_
                    apply Exists.intro
                    apply And.intro
                    · intro w9 _
                      go_simp
                      first | done | rfl
                    simp only [List.setIfInBounds_toArray, List.set_cons_zero, List.set_cons_succ]
                    refine wpAnyH_take_ex (i := 17) 80 rfl rfl (by kernel_rfl) (by kernel_rfl) (by kernel_rfl) (fun _ _ _ _ h => h) (by kernel_rfl) hH ?_
                    apply Exists.intro
                    apply And.intro
                    · intro w9 _
                      go_simp
                      first | done | rfl
                    simp only [List.setIfInBounds_toArray, List.set_cons_zero, List.set_cons_succ]
                    refine wpAnyH_take_ex (i := 18) 81 rfl rfl (by kernel_rfl) (by kernel_rfl) (by kernel_rfl) (fun _ _ _ _ h => h) (by kernel_rfl) hH ?_
                    apply Exists.intro
                    apply And.intro
                    · intro w9 _
                      go_simp
                      first | done | rfl
                    simp only [List.setIfInBounds_toArray, List.set_cons_zero, List.set_cons_succ]
                    refine wpAnyH_take_at (i := 19) 82 (.int .i64 (pc : Int)) rfl rfl (by kernel_rfl) (by kernel_rfl) (by kernel_rfl) (fun _ _ _ h => h) (yieldsIf_load_known (by kernel_rfl) 3 _ rfl (g) (o + i * 34 + 1) rfl (.int .i64 (pc : Int)) (fun w' hw' => load_int (HC1.out w' hw'))) hH ?_
                    simp only [List.setIfInBounds_toArray, List.set_cons_zero, List.set_cons_succ]
                    refine wpAnyH_take_ex (i := 20) 83 rfl rfl (by kernel_rfl) (by kernel_rfl) (by kernel_rfl) (fun _ _ _ _ h => h) (by kernel_rfl) hH ?_
                    apply Exists.intro
                    apply And.intro
                    · intro w9 _
                      go_simp
                      first | done | rfl
                    simp only [List.setIfInBounds_toArray, List.set_cons_zero, List.set_cons_succ]
                    refine wpAnyH_take_ex (i := 21) 84 rfl rfl (by kernel_rfl) (by kernel_rfl) (by kernel_rfl) (fun _ _ _ _ h => h) (by kernel_rfl) hH ?_
                    apply Exists.intro
                    apply And.intro
                    · intro w9 _
                      go_simp
                      first | done | rfl
                    simp only [List.setIfInBounds_toArray, List.set_cons_zero, List.set_cons_succ]
                    refine wpAnyH_take_ex (i := 22) 85 rfl rfl (by kernel_rfl) (by kernel_rfl) (by kernel_rfl) (fun _ _ _ _ h => h) (by kernel_rfl) hH ?_
                    apply Exists.intro
                    apply And.intro
                    · intro w9 _
                      go_simp
                      first | done | rfl
                    simp only [List.setIfInBounds_toArray, List.set_cons_zero, List.set_cons_succ]
                    refine wpAnyH_take_ex (i := 23) 11 rfl rfl (by kernel_rfl) (by kernel_rfl) (by kernel_rfl) (fun _ _ _ _ h => h) (by kernel_rfl) hH ?_
                    apply Exists.intro
                    apply And.intro
                    · intro w9 _
                      go_simp
                      first | done | rfl
                    simp only [List.setIfInBounds_toArray, List.set_cons_zero, List.set_cons_succ]
                    refine wpAnyH_done (by kernel_rfl) ?_ _
                    refine NoPanic.normal ?_
                    go_wp2
                    go_roundw
                    case rel => exact ⟨i + 1, by simp, false, rfl, Lib.hid HLT.out, Lib.hid (⟨fun h => (by cases h), fun h => ((HHAS.out HA.out).1 h).elim (fun h1 => HTH.out.2 h1) (fun h1 => absurd (by rw [HQQ.out]; exact HDV.out.1 (by rwa [Int.toNat_natCast] at h1)) HEQ.out)⟩), HKD⟩
                    case measure => have := HLT.out; simp [RowKit.intOf]; omega
              · have HA := Lib.hid ha
                have hge : ¬ ask ≥ 0 := ha
                clear ha hlvn
                as_aux_lemma =>
                  go_upto_region 15 with fail
                  refine wp_region_noPanic ?_
                  refine wp_region_held_drew (S := fun w' => Kept wr.heap.size wr.heap.size wr w') (by kernel_rfl) ((Kept.refl _ _ _).drew) (fun hH => ?_)
                  refine wpAnyH_take_ex (i := 0) 63 rfl rfl (by kernel_rfl) (by kernel_rfl) (by kernel_rfl) (fun _ _ _ _ h => h) (by kernel_rfl) hH ?_
                  apply Exists.intro
                  apply And.intro
                  · intro w9 _
                    go_simp
                    first | done | rfl
                  simp only [List.setIfInBounds_toArray, List.set_cons_zero, List.set_cons_succ]
                  refine wpAnyH_take_ex (i := 1) 64 rfl rfl (by kernel_rfl) (by kernel_rfl) (by kernel_rfl) (fun _ _ _ _ h => h) (by kernel_rfl) hH ?_
                  apply Exists.intro
                  apply And.intro
                  · intro w9 _
                    go_simp
                    first | done | rfl
                  simp only [List.setIfInBounds_toArray, List.set_cons_zero, List.set_cons_succ]
                  refine wpAnyH_take_ex (i := 2) 65 rfl rfl (by kernel_rfl) (by kernel_rfl) (by kernel_rfl) (fun _ _ _ _ h => h) (by kernel_rfl) hH ?_
                  apply Exists.intro
                  apply And.intro
                  · intro w9 _
                    go_simp
                    first | done | rfl
                  simp only [List.setIfInBounds_toArray, List.set_cons_zero, List.set_cons_succ]
                  refine wpAnyH_take_ex (i := 3) 66 rfl rfl (by kernel_rfl) (by kernel_rfl) (by kernel_rfl) (fun _ _ _ _ h => h) (by kernel_rfl) hH ?_
                  apply Exists.intro
                  apply And.intro
                  · intro w9 _
                    go_simp
                    first | done | rfl
                  simp only [List.setIfInBounds_toArray, List.set_cons_zero, List.set_cons_succ]
                  refine wpAnyH_take_ex (i := 4) 67 rfl rfl (by kernel_rfl) (by kernel_rfl) (by kernel_rfl) (fun _ _ _ _ h => h) (by kernel_rfl) hH ?_
                  apply Exists.intro
                  apply And.intro
                  · intro w9 _
                    go_simp
                    first | done | rfl
                  simp only [List.setIfInBounds_toArray, List.set_cons_zero, List.set_cons_succ]
                  refine wpAnyH_take_at (i := 5) 68 undef rfl rfl (by kernel_rfl) (by kernel_rfl) (by kernel_rfl) (fun _ _ _ h => h) (.inr ⟨by kernel_rfl, rfl⟩) hH ?_
                  simp only [List.setIfInBounds_toArray, List.set_cons_zero, List.set_cons_succ]
                  refine wpAnyH_take_at (i := 6) 69 undef rfl rfl (by kernel_rfl) (by kernel_rfl) (by kernel_rfl) (fun _ _ _ h => h) (.inr ⟨by kernel_rfl, rfl⟩) hH ?_
                  simp only [List.setIfInBounds_toArray, List.set_cons_zero, List.set_cons_succ]
                  refine wpAnyH_take_at (i := 7) 70 undef rfl rfl (by kernel_rfl) (by kernel_rfl) (by kernel_rfl) (fun _ _ _ h => h) (.inr ⟨by kernel_rfl, rfl⟩) hH ?_
                  simp only [List.setIfInBounds_toArray, List.set_cons_zero, List.set_cons_succ]
                  refine wpAnyH_take_at (i := 8) 71 undef rfl rfl (by kernel_rfl) (by kernel_rfl) (by kernel_rfl) (fun _ _ _ h => h) (.inr ⟨by kernel_rfl, rfl⟩) hH ?_
                  simp only [List.setIfInBounds_toArray, List.set_cons_zero, List.set_cons_succ]
                  refine wpAnyH_take_at (i := 9) 72 undef rfl rfl (by kernel_rfl) (by kernel_rfl) (by kernel_rfl) (fun _ _ _ h => h) (.inr ⟨by kernel_rfl, rfl⟩) hH ?_
                  simp only [List.setIfInBounds_toArray, List.set_cons_zero, List.set_cons_succ]
                  refine wpAnyH_take_at (i := 10) 73 undef rfl rfl (by kernel_rfl) (by kernel_rfl) (by kernel_rfl) (fun _ _ _ h => h) (.inr ⟨by kernel_rfl, rfl⟩) hH ?_
                  simp only [List.setIfInBounds_toArray, List.set_cons_zero, List.set_cons_succ]
                  refine wpAnyH_take_at (i := 11) 74 undef rfl rfl (by kernel_rfl) (by kernel_rfl) (by kernel_rfl) (fun _ _ _ h => h) (.inr ⟨by kernel_rfl, rfl⟩) hH ?_
                  simp only [List.setIfInBounds_toArray, List.set_cons_zero, List.set_cons_succ]
                  refine wpAnyH_take_at (i := 12) 75 undef rfl rfl (by kernel_rfl) (by kernel_rfl) (by kernel_rfl) (fun _ _ _ h => h) (.inr ⟨by kernel_rfl, rfl⟩) hH ?_
                  simp only [List.setIfInBounds_toArray, List.set_cons_zero, List.set_cons_succ]
                  refine wpAnyH_take_at (i := 13) 76 undef rfl rfl (by kernel_rfl) (by kernel_rfl) (by kernel_rfl) (fun _ _ _ h => h) (.inr ⟨by kernel_rfl, rfl⟩) hH ?_
                  simp only [List.setIfInBounds_toArray, List.set_cons_zero, List.set_cons_succ]
                  refine wpAnyH_take_at (i := 14) 77 undef rfl rfl (by kernel_rfl) (by kernel_rfl) (by kernel_rfl) (fun _ _ _ h => h) (.inr ⟨by kernel_rfl, rfl⟩) hH ?_
                  simp only [List.setIfInBounds_toArray, List.set_cons_zero, List.set_cons_succ]
                  refine wpAnyH_take_at (i := 15) 78 undef rfl rfl (by kernel_rfl) (by kernel_rfl) (by kernel_rfl) (fun _ _ _ h => h) (.inr ⟨by kernel_rfl, rfl⟩) hH ?_
                  simp only [List.setIfInBounds_toArray, List.set_cons_zero, List.set_cons_succ]
                  refine wpAnyH_take_at (i := 16) 79 undef rfl rfl (by kernel_rfl) (by kernel_rfl) (by kernel_rfl) (fun _ _ _ h => h) (.inr ⟨by kernel_rfl, rfl⟩) hH ?_
                  simp only [List.setIfInBounds_toArray, List.set_cons_zero, List.set_cons_succ]
                  refine wpAnyH_take_at (i := 17) 80 undef rfl rfl (by kernel_rfl) (by kernel_rfl) (by kernel_rfl) (fun _ _ _ h => h) (.inr ⟨by kernel_rfl, rfl⟩) hH ?_
                  simp only [List.setIfInBounds_toArray, List.set_cons_zero, List.set_cons_succ]
                  refine wpAnyH_take_at (i := 18) 81 undef rfl rfl (by kernel_rfl) (by kernel_rfl) (by kernel_rfl) (fun _ _ _ h => h) (.inr ⟨by kernel_rfl, rfl⟩) hH ?_
                  simp only [List.setIfInBounds_toArray, List.set_cons_zero, List.set_cons_succ]
                  refine wpAnyH_take_at (i := 19) 82 undef rfl rfl (by kernel_rfl) (by kernel_rfl) (by kernel_rfl) (fun _ _ _ h => h) (.inr ⟨by kernel_rfl, rfl⟩) hH ?_
                  simp only [List.setIfInBounds_toArray, List.set_cons_zero, List.set_cons_succ]
                  refine wpAnyH_take_at (i := 20) 83 undef rfl rfl (by kernel_rfl) (by kernel_rfl) (by kernel_rfl) (fun _ _ _ h => h) (.inr ⟨by kernel_rfl, rfl⟩) hH ?_
                  simp only [List.setIfInBounds_toArray, List.set_cons_zero, List.set_cons_succ]
                  refine wpAnyH_take_ex (i := 21) 84 rfl rfl (by kernel_rfl) (by kernel_rfl) (by kernel_rfl) (fun _ _ _ _ h => h) (by kernel_rfl) hH ?_
                  apply Exists.intro
                  apply And.intro
                  · intro w9 _
                    go_simp
                    first | done | rfl
                  simp only [List.setIfInBounds_toArray, List.set_cons_zero, List.set_cons_succ]
                  refine wpAnyH_take_ex (i := 22) 85 rfl rfl (by kernel_rfl) (by kernel_rfl) (by kernel_rfl) (fun _ _ _ _ h => h) (by kernel_rfl) hH ?_
                  apply Exists.intro
                  apply And.intro
                  · intro w9 _
                    go_simp
                    first | done | rfl
                  simp only [List.setIfInBounds_toArray, List.set_cons_zero, List.set_cons_succ]
                  refine wpAnyH_take_ex (i := 23) 11 rfl rfl (by kernel_rfl) (by kernel_rfl) (by kernel_rfl) (fun _ _ _ _ h => h) (by kernel_rfl) hH ?_
                  apply Exists.intro
                  apply And.intro
                  · intro w9 _
                    go_simp
                    first | done | rfl
                  simp only [List.setIfInBounds_toArray, List.set_cons_zero, List.set_cons_succ]
                  refine wpAnyH_done (by kernel_rfl) ?_ _
                  refine NoPanic.normal ?_
                  go_wp2
                  go_roundw
                  case rel => exact ⟨i + 1, by simp, false, rfl, Lib.hid HLT.out, Lib.hid (⟨fun h => (by cases h), fun h => absurd h (HNEG.out HA.out _)⟩), HKD⟩
                  case measure => have := HLT.out; simp [RowKit.intOf]; omega
          · have hnl : ¬ (i : Int) < (ln : Int) := by omega
            have HE := Lib.hid (show i = ln by have := hi.out; omega)
            clear hlt hi
            as_aux_lemma =>
              have HKW := Lib.hid (K4.out.next1 HK.out)
              have HPK := Lib.hid (ppack_calls n D rb sl wr (HR4.out.kept HK.out) (fun x hx => by
                  obtain ⟨h1, h2, h3⟩ := HAL.out.2.1.1 x hx
                  have h4 : x.level ≤ 32 := Nat.le_trans h1 HN32.out
                  have h5 := Nat.pow_le_pow_right (n := 2) (by decide) h4
                  exact ⟨by omega, by omega, h3⟩) (by have := HAL.out.2.2; omega) (T4.out.kept HK.out T4.out.lt T4.out.lt))
              rw [← HAL.out.1, HS.out] at HPK
              have HRW := Lib.hid (fun x (k : Kept wr.heap.size wr.heap.size wr x) => row_gone n HN32.out D rb sl ask x ((HR4.out.kept HK.out).kept k) HAL.out.2.1 (by have := HAL.out.2.2; omega))
              have HGN : Hid (∀ x, Kept wr.heap.size wr.heap.size wr x → Calls Tryd.prog 13 #[.pointer (some ⟨rb, 0, none⟩), .int .i64 ask] x fun e x' => e = .returned (.bool (!th)) ∧ Kept x.heap.size x.heap.size x x') := Lib.hid (fun x k => (HRW.out x k).mono (fun e x' h => by
                  obtain ⟨L', kk, er, rfl, ht, k2⟩ := h
                  refine ⟨?_, k2⟩
                  have h1 := Pp.below_gone HAL.out.2.1 ht i (by rw [HE.out, HLN2.out])
                  rw [← HTH.out] at h1
                  congr 2
                  cases th <;> cases hq : (er != 0) <;> simp_all))
              clear HRW
              go_upto_region 16 with fail
              refine wp_region_lit ?_
              refine @BigFrame.wpList_want _ _ _ _ _ _ _ ?hw9053 ?_
              case hw9053 => kernel_rfl
              intro K hK
              go_simp
              refine hK _ _ ?_
              clear hK K
              refine @BigFrame.wpList_want _ _ _ _ _ _ _ ?hw9051 ?_
              case hw9051 => kernel_rfl
              intro K hK
              go_simp
              go_at_call 17
              refine (HPK.out).mono ?_
              rintro e w5 ⟨rfl, k5⟩
              have K5 := Lib.hid k5
              clear k5
              refine hK _ _ ?_
              clear hK K
              refine @BigFrame.wpList_want _ _ _ _ _ _ _ ?hw9054 ?_
              case hw9054 => kernel_rfl
              intro K hK
              go_simp
              refine hK _ _ ?_
              clear hK K
              refine @BigFrame.wpList_want _ _ _ _ _ _ _ ?hw9055 ?_
              case hw9055 => kernel_rfl
              intro K hK
              go_simp
              refine hK _ _ ?_
              clear hK K
              refine @BigFrame.wpList_want _ _ _ _ _ _ _ ?hw9056 ?_
              case hw9056 => kernel_rfl
              intro K hK
              go_simp
              refine hK _ _ ?_
              clear hK K
              refine @BigFrame.wpList_want _ _ _ _ _ _ _ ?hw9057 ?_
              case hw9057 => kernel_rfl
              intro K hK
              go_simp
              refine hK _ _ ?_
              clear hK K
              refine @BigFrame.wpList_want _ _ _ _ _ _ _ ?hw9058 ?_
              case hw9058 => kernel_rfl
              intro K hK
              go_simp
              refine hK _ _ ?_
              clear hK K
              refine @BigFrame.wpList_want _ _ _ _ _ _ _ ?hw9052 ?_
              case hw9052 => kernel_rfl
              intro K hK
              go_simp
              go_at_call 13
              refine (HGN.out _ K5.out).mono ?_
              rintro e w6 ⟨rfl, k6⟩
              have K6 := Lib.hid (K5.out.next1 k6)
              clear k6
              refine hK _ _ ?_
              clear hK K
              refine @BigFrame.wpList_want _ _ _ _ _ _ _ ?hw9059 ?_
              case hw9059 => kernel_rfl
              intro K hK
              go_simp
              refine hK _ _ ?_
              clear hK K
              refine @BigFrame.wpList_want _ _ _ _ _ _ _ ?hw9060 ?_
              case hw9060 => kernel_rfl
              intro K hK
              go_simp
              refine hK _ _ ?_
              clear hK K
              refine @BigFrame.wpList_want _ _ _ _ _ _ _ ?hw9061 ?_
              case hw9061 => kernel_rfl
              intro K hK
              go_simp
              refine hK _ _ ?_
              clear hK K
              refine @BigFrame.wpList_want _ _ _ _ _ _ _ ?hw9062 ?_
              case hw9062 => kernel_rfl
              intro K hK
              go_simp
              refine hK _ _ ?_
              clear hK K
              refine @BigFrame.wpList_want _ _ _ _ _ _ _ ?hw9063 ?_
              case hw9063 => kernel_rfl
              intro K hK
              go_simp
              refine hK _ _ ?_
              clear hK K
              go_wp2
              go_ret
              exact ⟨by cases th <;> rfl, HKW.out.next1 K6.out⟩
      · have HZ := Lib.hid hz
        have hzi : (er == 0) = false := by rw [beq_eq_false_iff_ne]; exact hz
        have HU1 : Hid (Calls Tryd.prog 15 #[.string s, .int .i64 (n : Int)] w2 fun e w' => e = .returned (.tuple #[.pointer none, .int .i64 er]) ∧ Kept w2.heap.size w2.heap.size w2 w') := Lib.hid (HUN.out.mono (fun e w' h => by
          obtain ⟨k, h | h⟩ := h
          · exact ⟨h.2, k⟩
          · exact absurd h.1 hz))
        clear hz HUN
        refine wp_region_lit ?_
        refine @BigFrame.wpList_want _ _ _ _ _ _ _ ?hw9010 ?_
        case hw9010 => kernel_rfl
        intro K hK
        go_simp
        refine hK _ _ ?_
        clear hK K
        refine @BigFrame.wpList_want _ _ _ _ _ _ _ ?hw9011 ?_
        case hw9011 => kernel_rfl
        intro K hK
        go_simp
        refine hK _ _ ?_
        clear hK K
        refine @BigFrame.wpList_want _ _ _ _ _ _ _ ?hw9009 ?_
        case hw9009 => kernel_rfl
        intro K hK
        go_simp
        go_at_call 15
        refine (HU1.out).mono ?_
        rintro e w3 ⟨rfl, k3⟩
        have K3 := Lib.hid (K2.out.next1 k3)
        clear k3
        refine hK _ _ ?_
        clear hK K
        refine @BigFrame.wpList_want _ _ _ _ _ _ _ ?hw9012 ?_
        case hw9012 => kernel_rfl
        intro K hK
        go_simp
        refine hK _ _ ?_
        clear hK K
        refine @BigFrame.wpList_want _ _ _ _ _ _ _ ?hw9013 ?_
        case hw9013 => kernel_rfl
        intro K hK
        go_simp
        refine hK _ _ ?_
        clear hK K
        refine @BigFrame.wpList_want _ _ _ _ _ _ _ ?hw9014 ?_
        case hw9014 => kernel_rfl
        intro K hK
        go_simp
        refine hK _ _ ?_
        clear hK K
        refine @BigFrame.wpList_want _ _ _ _ _ _ _ ?hw9015 ?_
        case hw9015 => kernel_rfl
        intro K hK
        go_simp
        refine hK _ _ ?_
        clear hK K
        refine @BigFrame.wpList_want _ _ _ _ _ _ _ ?hw9016 ?_
        case hw9016 => kernel_rfl
        intro K hK
        go_simp
        refine hK _ _ ?_
        clear hK K
        go_upto_region 6 with fail
        refine wp_region_lit ?_
        refine @BigFrame.wpList_want _ _ _ _ _ _ _ ?hw9018 ?_
        case hw9018 => kernel_rfl
        intro K hK
        go_simp
        refine hK _ _ ?_
        clear hK K
        refine @BigFrame.wpList_want _ _ _ _ _ _ _ ?hw9019 ?_
        case hw9019 => kernel_rfl
        intro K hK
        go_simp
        refine hK _ _ ?_
        clear hK K
        refine @BigFrame.wpList_want _ _ _ _ _ _ _ ?hw9017 ?_
        case hw9017 => kernel_rfl
        intro K hK
        go_simp
        go_at_call 16
        refine (HRU.out _).mono ?_
        rintro e w4 ⟨v, rfl, k4, _⟩
        have K4 := Lib.hid (K3.out.next1 k4)
        clear k4
        refine hK _ _ ?_
        clear hK K
        refine @BigFrame.wpList_want _ _ _ _ _ _ _ ?hw9020 ?_
        case hw9020 => kernel_rfl
        intro K hK
        go_simp
        refine hK _ _ ?_
        clear hK K
        refine @BigFrame.wpList_want _ _ _ _ _ _ _ ?hw9021 ?_
        case hw9021 => kernel_rfl
        intro K hK
        go_simp
        refine hK _ _ ?_
        clear hK K
        refine @BigFrame.wpList_want _ _ _ _ _ _ _ ?hw9022 ?_
        case hw9022 => kernel_rfl
        intro K hK
        go_simp
        refine hK _ _ ?_
        clear hK K
        refine @BigFrame.wpList_want _ _ _ _ _ _ _ ?hw9023 ?_
        case hw9023 => kernel_rfl
        intro K hK
        go_simp
        refine hK _ _ ?_
        clear hK K
        refine @BigFrame.wpList_want _ _ _ _ _ _ _ ?hw9024 ?_
        case hw9024 => kernel_rfl
        intro K hK
        go_simp
        refine hK _ _ ?_
        clear hK K
        have hz1 : (er != 0) = true := by rw [bne_iff_ne]; exact HZ.out
        have hz2 : ¬ er = 0 := HZ.out
        go_upto_region 7 with fail
        refine wp_region_lit ?_
        refine @BigFrame.wpList_want _ _ _ _ _ _ _ ?hw9025 ?_
        case hw9025 => kernel_rfl
        intro K hK
        go_simp
        refine hK _ _ ?_
        clear hK K
        refine @BigFrame.wpList_want _ _ _ _ _ _ _ ?hw9026 ?_
        case hw9026 => kernel_rfl
        intro K hK
        go_simp
        refine hK _ _ ?_
        clear hK K
        refine @BigFrame.wpList_want _ _ _ _ _ _ _ ?hw9027 ?_
        case hw9027 => kernel_rfl
        intro K hK
        go_simp
        refine hK _ _ ?_
        clear hK K
        refine @BigFrame.wpList_want _ _ _ _ _ _ _ ?hw9028 ?_
        case hw9028 => kernel_rfl
        intro K hK
        go_simp
        refine hK _ _ ?_
        clear hK K
        refine @BigFrame.wpList_want _ _ _ _ _ _ _ ?hw9029 ?_
        case hw9029 => kernel_rfl
        intro K hK
        go_simp
        refine hK _ _ ?_
        clear hK K
        refine @BigFrame.wpList_want _ _ _ _ _ _ _ ?hw9030 ?_
        case hw9030 => kernel_rfl
        intro K hK
        go_simp
        refine hK _ _ ?_
        clear hK K
        refine @BigFrame.wpList_want _ _ _ _ _ _ _ ?hw9031 ?_
        case hw9031 => kernel_rfl
        intro K hK
        go_simp
        refine hK _ _ ?_
        clear hK K
        refine @BigFrame.wpList_want _ _ _ _ _ _ _ ?hw9032 ?_
        case hw9032 => kernel_rfl
        intro K hK
        go_simp
        refine hK _ _ ?_
        clear hK K
        refine @BigFrame.wpList_want _ _ _ _ _ _ _ ?hw9033 ?_
        case hw9033 => kernel_rfl
        intro K hK
        go_simp
        refine hK _ _ ?_
        clear hK K
        refine @BigFrame.wpList_want _ _ _ _ _ _ _ ?hw9034 ?_
        case hw9034 => kernel_rfl
        intro K hK
        go_simp
        refine hK _ _ ?_
        clear hK K
        clear hz2
        go_wp2
        go_ret
        exact ⟨rfl, K4.out⟩
  · have hlen' : ¬ (s.size : Int) ≤ 20000 := by omega
    have hgt : (s.size : Int) > 20000 := by omega
    clear hlen hlen'
    go_wp2_with (first
      | (go_at_call 6; refine (ppr_awake _).mono ?_; rintro e w3 ⟨rfl, k3⟩; have K3 := Lib.hid (K2.out.next1 k3))
      | (go_at_call 6; refine (ppr_awake _).mono ?_; rintro e w2 ⟨rfl, k2⟩; have K2 := Lib.hid (K0.out.next1 k2)))
    go_ret
    exact ⟨rfl, K3.out⟩

end Go.Proofs.YtdnnccnicaoniaaDoor
