/-
  The landed Pack of a row.
-/
import Derived.Test.YtdnnccnicaoniaaDoorPprRefPack
import Derived.Test.YtdnnccnicaoniaaDoorGS

namespace Go.Proofs.YtdnnccnicaoniaaDoor
open Go.RowKit Go.Lib

theorem pNum_nat (l : List UInt8) (n : Nat) (hn : n ≤ 4611686018427387903) : pNum (some l) (n : Int) = some (l ++ Wm.enc n) := by
  unfold pNum
  rw [if_pos ⟨Int.natCast_nonneg _, by omega⟩]
  rfl
theorem WrV.wr {w : World} {base b : Nat} {st : Option (List UInt8)} (h : WrV w base b (.pointer (some ⟨b, 0, none⟩)) st) : Wr w base b st := by
  rcases h with ⟨e, _⟩ | ⟨_, h⟩
  · cases e
  · exact h
theorem short_of {l : List UInt8} (h : l.length ≤ 800000000) : Short (some l) 800000000 := fun m hm => by cases hm; exact h

set_option maxRecDepth 100000 in
set_option maxHeartbeats 6400000 in
theorem ppack_calls (bits : Nat) (L : List Sd) (rb : Nat) (sl : Value) (w : World) (hR : RowIs w rb bits sl L) (hin : ∀ s ∈ L, s.level < 4294967296 ∧ s.place < 4294967296 ∧ s.self.length = 32) (hn : L.length < 100000) (ht : Tab w) :
    Calls Tryd.prog 17 #[.pointer (some ⟨rb, 0, none⟩)] w fun e w' => e = .returned (.string (str (Pp.pack L))) ∧ Kept w.heap.size w.heap.size w w' := by
  obtain ⟨hrow, ad, g, o, c, rfl, hss, _⟩ := hR
  have c1 := two_cell1 hrow
  obtain ⟨ln, hln⟩ : ∃ ln, ln = L.length := ⟨_, rfl⟩
  rw [← hln] at c1
  have hrb : rb < w.heap.size := lt_of_block hrow
  have HRB := Lib.hid hrb
  have HSS := Lib.hid hss
  have HIN := Lib.hid hin
  have HLN := Lib.hid hln
  have hln9 : (ln : Int) < 100000 := by omega
  have HLB := Lib.hid (show ln < 100000 by omega)
  have HSZ := Lib.hid (fun i => Pp.packs_length (L.take i) (fun s hs => (hin s (List.mem_of_mem_take hs)).2.2))
  have HT := Lib.hid ht
  have HWP := Lib.hid ht.lt
  obtain ⟨wb, hwb⟩ : ∃ wb, wb = w.heap.size := ⟨_, rfl⟩
  rw [← hwb] at HWP HRB ⊢
  have HWB := Lib.hid hwb
  clear hss hin hln hn hrow hrb ht hwb
  have hnew := Lib.hid (fun w => new_calls w)
  go_enter Tryd.func17, Tryd.ntmps17
  go_upto_region 4 with (go_at_call 39; refine (hnew.out _).mono ?_; rw [← HWB.out]; rintro e w1 ⟨rfl, h1, k1, s1⟩)
  have V1 : Hid (WrV w1 (wb + 1) wb (.pointer (some ⟨wb, 0, none⟩)) (some [])) := Lib.hid (.inr ⟨rfl, h1⟩)
  have K1 := Lib.hid k1
  have T1 := Lib.hid (HT.out.kept k1 HWP.out HWP.out)
  have c1a : w1.cell? ⟨rb, 1, none⟩ = some (.slice ad ln c) := (k1.cell (p := ⟨rb, 1, none⟩) HRB.out (Nat.ne_of_lt HRB.out)).trans c1
  clear h1 k1 s1
  refine wp_region_lit ?_
  refine @BigFrame.wpList_want _ _ _ _ _ _ _ ?hw1801 ?_
  case hw1801 => kernel_rfl
  intro K hK
  go_simp
  refine hK _ _ ?_
  clear hK K
  refine @BigFrame.wpList_want _ _ _ _ _ _ _ ?hw1802 ?_
  case hw1802 => kernel_rfl
  intro K hK
  go_simp
  refine hK _ _ ?_
  clear hK K
  refine @BigFrame.wpList_want _ _ _ _ _ _ _ ?hw1803 ?_
  case hw1803 => kernel_rfl
  intro K hK
  go_simp
  refine hK _ _ ?_
  clear hK K
  refine @BigFrame.wpList_want _ _ _ _ _ _ _ ?hw1804 ?_
  case hw1804 => kernel_rfl
  intro K hK
  go_simp
  refine hK _ _ ?_
  clear hK K
  refine @BigFrame.wpList_want _ _ _ _ _ _ _ ?hw1805 ?_
  case hw1805 => kernel_rfl
  intro K hK
  go_simp
  refine hK _ _ ?_
  clear hK K
  refine @BigFrame.wpList_want _ _ _ _ _ _ _ ?hw1806 ?_
  case hw1806 => kernel_rfl
  intro K hK
  go_simp
  refine hK _ _ ?_
  clear hK K
  refine @BigFrame.wpList_want _ _ _ _ _ _ _ ?hw1807 ?_
  case hw1807 => kernel_rfl
  intro K hK
  go_simp
  go_at_call 40
  refine (wnum_f (wb + 1) wb (.pointer (some ⟨wb, 0, none⟩)) (some []) (ln : Int) _ V1.out T1.out (short_of (by simp))).mono ?_
  rintro e w2 ⟨rfl, hv2, k2, _⟩
  refine hK _ _ ?_
  clear hK K
  have V2 : Hid (WrV w2 (wb + 1) wb (.pointer (some ⟨wb, 0, none⟩)) (some (Wm.enc ln))) := Lib.hid (by have h := hv2; rw [pNum_nat [] ln (by have := HLB.out; omega), List.nil_append] at h; exact h)
  have K2 := Lib.hid (K1.out.trans (k2.mono (Nat.le_succ wb) (fun i hi _ => Nat.ne_of_lt hi)))
  have T2 := Lib.hid (T1.out.kept k2 (Nat.succ_pos wb) HWP.out)
  have c2a : w2.cell? ⟨rb, 1, none⟩ = some (.slice ad ln c) := (K2.out.cell (p := ⟨rb, 1, none⟩) HRB.out (Nat.ne_of_lt HRB.out)).trans c1
  clear hv2 k2 c1a
  go_wp2_with fail
  go_loopw [23] (fun s23 wr => ∃ i : Nat, s23 = .int .i64 (i : Int) ∧ Hid (i ≤ ln) ∧ Hid (WrV wr (wb + 1) wb (.pointer (some ⟨wb, 0, none⟩)) (some (Wm.enc ln ++ Pp.packs (L.take i)))) ∧ Hid (Kept wb wb w wr) ∧ Hid (Tab wr)) (fun s23 _ => ln - (RowKit.intOf s23).toNat)
  case atStart => exact ⟨0, rfl, Lib.hid (Nat.zero_le _), Lib.hid (by have h := V2.out; rwa [← List.append_nil (Wm.enc ln)] at h), K2, T2⟩
  case round =>
    clear V2 K2 T2 V1 K1 T1 c2a
    obtain ⟨i, rfl, hi, HV, HK, HTR⟩ := hrel
    by_cases hlt : i < ln
    · have hiL : i < L.length := by rw [← HLN.out]; exact hlt
      obtain ⟨had, hg, hr⟩ := HSS.out i hiL
      subst had
      obtain ⟨b1, b2, b3⟩ := HIN.out _ (List.getElem_mem hiL)
      have hlti : (i : Int) < (ln : Int) := by omega
      have hi0 : ¬ (i : Int) < 0 := by omega
      have HNX := Lib.hid (show Pp.packs (L.take (i + 1)) = Pp.packs (L.take i) ++ Pp.pack1 L[i] by rw [List.take_succ_eq_append_getElem hiL, Pp.packs_snoc])
      have HSH := Lib.hid (show (Wm.enc ln ++ Pp.packs (L.take i)).length ≤ 5000000 by
        rw [List.length_append]
        have h1 := HSZ.out i
        have h2 := Wm.enc_length_le ln
        rw [List.length_take] at h1
        have h3 : min i L.length ≤ i := Nat.min_le_left _ _
        have := HLB.out
        omega)
      have HRW := Lib.hid (show wr.rangeAt g (o + i * 34) (Pp.cells L[i]) from rangeAt_kept (HK.out.mono (Nat.le_of_eq HWB.out.symm) (fun j hj hne => hne)) hr hg (by rw [HWB.out]; exact Nat.ne_of_lt hg))
      generalize L[i] = s at b1 b2 b3 HNX HRW
      obtain ⟨PRE, hPRE⟩ : ∃ PRE, PRE = Wm.enc ln ++ Pp.packs (L.take i) := ⟨_, rfl⟩
      rw [← hPRE] at HV HSH
      have HPRE := Lib.hid hPRE.symm
      clear hPRE
      have HLT := Lib.hid hlt
      have HB1 := Lib.hid b1
      have HB2 := Lib.hid b2
      have HS32 := Lib.hid b3
      have HSI := Lib.hid (show (Tryd.prog.info? 54).map (·.size) = some (Pp.cells s).length by rw [seedInfo]; simp [Pp.cells, bcells_length, HS32.out])
      have HD34 := Lib.hid (show (Pp.cells s).toArray.size = 34 by simp [Pp.cells, bcells_length, HS32.out])
      have HSE := Lib.hid (fun (w2 : World) (b : Nat) (h : w2.heap[b]? = some (.cells (Pp.cells s).toArray 54 (0, 0))) => load_self HS32.out (w := w2) (g := b) (by simpa using row_range h))
      have HC0 := Lib.hid (fun (w2 : World) (b : Nat) (h : w2.heap[b]? = some (.cells (Pp.cells s).toArray 54 (0, 0))) => show w2.cell? ⟨b, 0, none⟩ = some (.int .i64 (s.level : Int)) by simpa using row_range h 0 _ rfl)
      have HC1 := Lib.hid (fun (w2 : World) (b : Nat) (h : w2.heap[b]? = some (.cells (Pp.cells s).toArray 54 (0, 0))) => show w2.cell? ⟨b, 1, none⟩ = some (.int .i64 (s.place : Int)) by simpa using row_range h 1 _ rfl)
      have HAL := Lib.hid (cells_all s)
      have HHASH := Lib.hid (fun st w h hs => whash_f (wb + 1) wb (.pointer (some ⟨wb, 0, none⟩)) st s.self HS32.out w h hs)
      obtain ⟨D, hD⟩ : ∃ D, D = (Pp.cells s).toArray := ⟨_, rfl⟩
      obtain ⟨E, hE⟩ : ∃ E, E = (bcells s.self).toArray := ⟨_, rfl⟩
      rw [← hD] at HSE HD34 HAL HC0 HC1
      rw [← hE] at HSE HHASH
      have HDD := Lib.hid hD.symm
      clear hD hE b1 b2 b3 hlt hiL hg hr hi
      go_upto_region 7 with fail
      refine wp_region_lit ?_
      refine @BigFrame.wpList_want _ _ _ _ _ _ _ ?hw1808 ?_
      case hw1808 => kernel_rfl
      intro K hK
      go_simp
      refine hK _ _ ?_
      clear hK K
      refine wpList_load_mid rfl 54 (.tmp 25) rfl g (o + i * 34) rfl (Pp.cells s) _ HRW.out Tryd.underlying54 rfl HSI.out ?_
      simp only [Act.put, List.setIfInBounds_toArray, List.set_cons_zero, List.set_cons_succ]
      rw [HDD.out]
      refine wpList_alloc_k rfl 54 rfl (alloc_seed _) ?_
      simp only [Act.put, List.setIfInBounds_toArray, List.set_cons_zero, List.set_cons_succ]
      refine wpList_store_row rfl 54 _ _ rfl (wr.heap.size) D rfl rfl 54 zeros34 (heap_new _ _) (by rw [seedInfo, HD34.out]) (by rw [zeros34_size, HD34.out]) (HAL.out) ?_
      simp only [Act.put]
      rw [World.setRow_alloc_new]
      have B3 := Lib.hid (heap_new wr (.cells D 54))
      have V3 := Lib.hid (HV.out.alloc (.cells D 54))
      have hsz : wb < wr.heap.size := HV.out.le
      have K3 := Lib.hid (HK.out.alloc (Nat.le_of_lt hsz) (.cells D 54))
      have T3 := Lib.hid (HTR.out.kept ((Kept.refl wr.heap.size wr.heap.size wr).alloc (Nat.le_refl _) (.cells D 54)) HTR.out.lt HTR.out.lt)
      have HSB := Lib.hid (show wr.heap.size ≠ wb by omega)
      clear hsz
      generalize wr.alloc (.cells D 54) = w3 at B3 V3 K3 T3 ⊢
      obtain ⟨sb, hsb⟩ : ∃ sb, sb = wr.heap.size := ⟨_, rfl⟩
      rw [← hsb] at B3 HSB ⊢
      clear hsb
      have hc := HC0.out _ _ B3.out
      go_upto_region 8 with fail
      refine wp_region_lit ?_
      refine @BigFrame.wpList_want _ _ _ _ _ _ _ ?hw1809 ?_
      case hw1809 => kernel_rfl
      intro K hK
      go_simp
      refine hK _ _ ?_
      clear hK K
      refine @BigFrame.wpList_want _ _ _ _ _ _ _ ?hw1810 ?_
      case hw1810 => kernel_rfl
      intro K hK
      go_simp
      refine hK _ _ ?_
      clear hK K
      refine @BigFrame.wpList_want _ _ _ _ _ _ _ ?hw1811 ?_
      case hw1811 => kernel_rfl
      intro K hK
      go_simp
      refine hK _ _ ?_
      clear hK K
      refine @BigFrame.wpList_want _ _ _ _ _ _ _ ?hw1812 ?_
      case hw1812 => kernel_rfl
      intro K hK
      go_simp
      go_at_call 40
      refine (wnum_f (wb + 1) wb (.pointer (some ⟨wb, 0, none⟩)) (some PRE) (s.level : Int) _ V3.out T3.out (short_of (by have := HSH.out; omega))).mono ?_
      rintro e w4 ⟨rfl, hv4, k4, f4⟩
      refine hK _ _ ?_
      clear hK K
      clear hc
      have V4 : Hid (WrV w4 (wb + 1) wb (.pointer (some ⟨wb, 0, none⟩)) (some (PRE ++ Wm.enc s.level))) := Lib.hid (by have h := hv4; rw [pNum_nat _ _ (by have := HB1.out; omega)] at h; exact h)
      have K4 := Lib.hid (K3.out.trans (k4.mono (Nat.le_succ wb) (fun i hi _ => Nat.ne_of_lt hi)))
      have T4 := Lib.hid (T3.out.kept k4 (Nat.succ_pos wb) HWP.out)
      have B4 := Lib.hid (f4 sb _ B3.out HSB.out (fun cs fr e => by injection e with _ e2 _; exact absurd e2 (by decide)))
      clear hv4 k4 f4
      have hc := HC1.out _ _ B4.out
      go_upto_region 9 with fail
      refine wp_region_lit ?_
      refine @BigFrame.wpList_want _ _ _ _ _ _ _ ?hw1813 ?_
      case hw1813 => kernel_rfl
      intro K hK
      go_simp
      refine hK _ _ ?_
      clear hK K
      refine @BigFrame.wpList_want _ _ _ _ _ _ _ ?hw1814 ?_
      case hw1814 => kernel_rfl
      intro K hK
      go_simp
      refine hK _ _ ?_
      clear hK K
      refine @BigFrame.wpList_want _ _ _ _ _ _ _ ?hw1815 ?_
      case hw1815 => kernel_rfl
      intro K hK
      go_simp
      refine hK _ _ ?_
      clear hK K
      refine @BigFrame.wpList_want _ _ _ _ _ _ _ ?hw1816 ?_
      case hw1816 => kernel_rfl
      intro K hK
      go_simp
      go_at_call 40
      refine (wnum_f (wb + 1) wb (.pointer (some ⟨wb, 0, none⟩)) (some (PRE ++ Wm.enc s.level)) (s.place : Int) _ V4.out T4.out (short_of (by have := HSH.out; have := Wm.enc_length_le s.level; rw [List.length_append]; omega))).mono ?_
      rintro e w5 ⟨rfl, hv5, k5, f5⟩
      refine hK _ _ ?_
      clear hK K
      clear hc
      have V5 : Hid (WrV w5 (wb + 1) wb (.pointer (some ⟨wb, 0, none⟩)) (some (PRE ++ Wm.enc s.level ++ Wm.enc s.place))) := Lib.hid (by have h := hv5; rw [pNum_nat _ _ (by have := HB2.out; omega)] at h; exact h)
      have K5 := Lib.hid (K4.out.trans (k5.mono (Nat.le_succ wb) (fun i hi _ => Nat.ne_of_lt hi)))
      have T5 := Lib.hid (T4.out.kept k5 (Nat.succ_pos wb) HWP.out)
      have B5 := Lib.hid (f5 sb _ B4.out HSB.out (fun cs fr e => by injection e with _ e2 _; exact absurd e2 (by decide)))
      clear hv5 k5 f5
      go_upto_region 10 with fail
      refine wp_region_lit ?_
      refine @BigFrame.wpList_want _ _ _ _ _ _ _ ?hw1817 ?_
      case hw1817 => kernel_rfl
      intro K hK
      go_simp
      refine hK _ _ ?_
      clear hK K
      refine @BigFrame.wpList_want _ _ _ _ _ _ _ ?hw1818 ?_
      case hw1818 => kernel_rfl
      intro K hK
      go_simp
      refine hK _ _ ?_
      clear hK K
      refine wpList_load_known (by rfl) 23 (.tmp 36) rfl sb 2 rfl (.agg E) (HSE.out w5 sb B5.out) ?_
      simp only [Act.put, List.setIfInBounds_toArray, List.set_cons_zero, List.set_cons_succ]
      refine @BigFrame.wpList_want _ _ _ _ _ _ _ ?hw1819 ?_
      case hw1819 => kernel_rfl
      intro K hK
      go_simp
      go_at_call 41
      refine (HHASH.out (some (PRE ++ Wm.enc s.level ++ Wm.enc s.place)) _ V5.out (short_of (by have := HSH.out; have := Wm.enc_length_le s.level; have := Wm.enc_length_le s.place; simp only [List.length_append]; omega))).mono ?_
      rintro e w6 ⟨rfl, hv6, k6, f6⟩
      refine hK _ _ ?_
      clear hK K
      have V6 : Hid (WrV w6 (wb + 1) wb (.pointer (some ⟨wb, 0, none⟩)) (some (PRE ++ Wm.enc s.level ++ Wm.enc s.place ++ s.self))) := Lib.hid (by have h := hv6; skip; exact h)
      have K6 := Lib.hid (K5.out.trans (k6.mono (Nat.le_succ wb) (fun i hi _ => Nat.ne_of_lt hi)))
      have T6 := Lib.hid (T5.out.kept k6 (Nat.succ_pos wb) HWP.out)
      have B6 := Lib.hid (f6 sb _ B5.out HSB.out (fun cs fr e => by injection e with _ e2 _; exact absurd e2 (by decide)))
      clear hv6 k6 f6
      go_wp2_with fail
      go_roundw
      case rel => exact ⟨i + 1, by simp, Lib.hid HLT.out, Lib.hid (by have h := V6.out; rw [HNX.out, ← List.append_assoc, HPRE.out, Pp.pack1]; simp only [List.append_assoc] at h ⊢; exact h), K6, T6⟩
      case measure => have := HLT.out; simp [RowKit.intOf]; omega
    · have hnl : ¬ (i : Int) < (ln : Int) := by omega
      have HI := Lib.hid (show i = L.length by have := hi.out; have := HLN.out; omega)
      have HW := Lib.hid HV.out.wr
      clear hlt hi
      go_wp2_with (go_at_call 42; refine (wend_ok (wb + 1) wb _ _ HW.out).mono ?_; rintro e w7 ⟨rfl, hw7⟩; subst hw7)
      refine bodyPost_ret (results_tmp rfl _ _ _) rfl ?_
      refine ⟨?_, HK.out⟩
      have e : Wm.enc ln ++ Pp.packs (L.take i) = Pp.pack L := by rw [HI.out, List.take_length, HLN.out]; rfl
      rw [← e]
      rfl

end Go.Proofs.YtdnnccnicaoniaaDoor
