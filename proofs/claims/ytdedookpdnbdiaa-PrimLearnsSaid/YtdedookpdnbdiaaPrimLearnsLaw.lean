/-
  The walk of the statement PrimLearns: who knows a secret key knows all that was wrapped for its public key.
-/
import Derived.Test.YtdedookpdnbdiaaGN
import Derived.Test.YtdedookpdnbdiaaGP
import Derived.Test.YtdedookpdnbdiaaGG

namespace Go.Proofs.Ytdedookpdnbdiaa
open Go.RowKit Go.Lib

set_option maxRecDepth 100000 in
set_option maxHeartbeats 6400000 in
theorem primlearns_walk (a : List UInt8) (ha : a.length = 32) (L : List Ac) (v : Value) (w : World) (hL : As w v L) : Calls Try.prog 9 #[.agg (bcells a).toArray, v] w fun e w' => e = .returned (.bool true) ∧ Kept w.heap.size w.heap.size w w' := by
  obtain ⟨zq, zad, zg, zo, zc, rfl, zq2⟩ := id hL
  clear zq zq2
  have haw := fun w => prim_awake w
  have hai := keyInfo ha
  have hpl := Pm.pub_length a
  have hpi := keyInfo hpl
  have hpz := keySize hpl
  have hpa := bcells_all (Pm.pub a)
  have ha32 : (bcells a).toArray.size = 32 := by rw [List.size_toArray, bcells_length, ha]
  obtain ⟨ka, hka⟩ : ∃ ka, ka = (bcells a).toArray := ⟨_, rfl⟩
  rw [← hka] at hai ha32 ⊢
  obtain ⟨cp, hcp⟩ : ∃ cp, cp = (bcells (Pm.pub a)).toArray := ⟨_, rfl⟩
  rw [← hcp] at hpi hpz hpa
  obtain ⟨i0, z0, hi0, hz0, hzs0, hs0, hb0⟩ := hash_info
  have HI0 := Lib.hid hi0
  have HZ0 := Lib.hid hz0
  have HS0 := Lib.hid hs0
  have HAW := Lib.hid haw
  have HAI := Lib.hid hai
  have HPI := Lib.hid hpi
  have HPZ := Lib.hid hpz
  have HPA := Lib.hid hpa
  have HA32 := Lib.hid ha32
  have HKA := Lib.hid hka
  have HCP := Lib.hid hcp
  clear hi0 hz0 hzs0 hs0 hb0 haw hai hpi hpz hpa ha32 hka hcp
  go_enter Try.func9, Try.ntmps9
  go_upto_region 1 with fail
  have hP : (w.alloc (.cells ka 34)).heap[w.heap.size]? = some (.cells ka 34 (0, 0)) := heap_new _ _
  have k0 : Kept w.heap.size w.heap.size w (w.alloc (.cells ka 34)) := (Kept.refl _ _ _).alloc (Nat.le_refl _) _
  have hL0 := hL.kept k0
  generalize w.alloc (.cells ka 34) = w0 at hP k0 hL0 ⊢
  obtain ⟨wa, hwa⟩ : ∃ wa, wa = w.heap.size := ⟨_, rfl⟩
  rw [← hwa] at hP ⊢
  have HP := Lib.hid hP
  have HK0 := Lib.hid k0
  have HL0 := Lib.hid hL0
  clear hwa hP k0 hL0 hL
  refine wp_region_lit ?_
  refine @BigFrame.wpList_want _ _ _ _ _ _ _ ?hwa0 ?_
  case hwa0 => kernel_rfl
  intro K hK
  go_simp
  go_at_call 20; refine (HAW.out _).mono ?_; rintro e w1 ⟨rfl, k1⟩
  refine hK _ _ ?_
  clear hK K
  refine @BigFrame.wpList_want _ _ _ _ _ _ _ ?hwb00 ?_
  case hwb00 => kernel_rfl
  intro K hK
  go_simp
  refine hK _ _ ?_
  clear hK K
  refine @BigFrame.wpList_want _ _ _ _ _ _ _ ?hwb01 ?_
  case hwb01 => kernel_rfl
  intro K hK
  go_simp
  refine hK _ _ ?_
  clear hK K
  refine @BigFrame.wpList_want _ _ _ _ _ _ _ ?hwb02 ?_
  case hwb02 => kernel_rfl
  intro K hK
  go_simp
  refine hK _ _ ?_
  clear hK K
  refine @BigFrame.wpList_want _ _ _ _ _ _ _ ?hwb03 ?_
  case hwb03 => kernel_rfl
  intro K hK
  go_simp
  refine hK _ _ ?_
  clear hK K
  by_cases hz : 40 < L.length
  · have hd : decide ((40 : Int) < (L.length : Int)) = true := decide_eq_true (by omega)
    refine @BigFrame.wpList_want _ _ _ _ _ _ _ ?hwc00 ?_
    case hwc00 => kernel_rfl
    intro K hK
    go_simp
    refine hK _ _ ?_
    clear hK K
    refine @BigFrame.wpList_want _ _ _ _ _ _ _ ?hwc01 ?_
    case hwc01 => kernel_rfl
    intro K hK
    go_simp
    refine hK _ _ ?_
    clear hK K
    go_wp2_with (go_at_call 20; refine (HAW.out _).mono ?_; rintro e w3 ⟨rfl, k3⟩)
    go_ret
    exact ⟨rfl, HK0.out.trans ((k1.trans (k3.mono k1.size (fun i hi _ => Nat.ne_of_lt (Nat.lt_of_lt_of_le hi k1.size)))).mono HK0.out.size (fun i hi _ => by have := HK0.out.size; omega))⟩
  have hd : decide ((40 : Int) < (L.length : Int)) = false := decide_eq_false (by omega)
  refine @BigFrame.wpList_want _ _ _ _ _ _ _ ?hwd00 ?_
  case hwd00 => kernel_rfl
  intro K hK
  go_simp
  refine hK _ _ ?_
  clear hK K
  refine @BigFrame.wpList_want _ _ _ _ _ _ _ ?hwd01 ?_
  case hwd01 => kernel_rfl
  intro K hK
  go_simp
  refine hK _ _ ?_
  clear hK K
  have hL40 : L.length ≤ 40 := by omega
  have hL1 := HL0.out.kept k1
  have hP1 := (k1.block _ (lt_of_block HP.out) (Nat.ne_of_lt (lt_of_block HP.out))).trans HP.out
  have hnb := new_book w1
  have HNB := Lib.hid hnb
  have HL1 := Lib.hid hL1
  have HP1 := Lib.hid hP1
  have HK1 := Lib.hid (HK0.out.trans (k1.mono HK0.out.size (fun i hi _ => by have := HK0.out.size; omega)))
  clear hz hd hL1 hP1 k1 hnb HL0 HP
  go_upto_region 3 with fail
  as_aux_lemma =>
    refine wp_region_lit ?_
    refine @BigFrame.wpList_want _ _ _ _ _ _ _ ?hwe0 ?_
    case hwe0 => kernel_rfl
    intro K hK
    go_simp
    go_at_call 42; refine HNB.out.mono ?_; rintro e w3 ⟨bb, S0, rfl, hB, k3⟩
    refine hK _ _ ?_
    clear hK K
    obtain ⟨base, hbase⟩ : ∃ base, base = w1.heap.size := ⟨_, rfl⟩
    rw [← hbase] at hB
    have b3 : base ≤ w3.heap.size := by rw [hbase]; exact k3.size
    have hpub := pub_book base bb 0 [] a (Lib.hid ha) w3 ⟨0, Nat.le_refl _, S0, hB⟩ b3 ⟨by decide, by decide, fun f hf => by cases hf⟩
    rw [← HKA.out, ← HCP.out] at hpub
    have hP3 := (k3.block _ (lt_of_block HP1.out) (Nat.ne_of_lt (lt_of_block HP1.out))).trans HP1.out
    have HPUB := Lib.hid hpub
    have HP3 := Lib.hid hP3
    have B3 := Lib.hid b3
    have HBASE := Lib.hid hbase
    have HK3 := Lib.hid k3
    clear hpub hP3 b3 hbase k3 hB
    go_upto_region 4 with fail
    as_aux_lemma =>
      refine wp_region_lit ?_
      refine @BigFrame.wpList_want _ _ _ _ _ _ _ ?hwf0 ?_
      case hwf0 => kernel_rfl
      intro K hK
      go_simp
      refine hK _ _ ?_
      clear hK K
      refine wpList_load_row_g ?hwf1 34 _ rfl (wa) rfl 34 ka (0, 0) _ (HP3.out) Try.underlying34 rfl HAI.out ?_
      case hwf1 => kernel_rfl
      simp only [Act.put, List.setIfInBounds_toArray, List.set_cons_zero, List.set_cons_succ]
      refine @BigFrame.wpList_want _ _ _ _ _ _ _ ?hwf2 ?_
      case hwf2 => kernel_rfl
      intro K hK
      go_simp
      go_at_call 22; refine HPUB.out.mono ?_; rintro e w4 ⟨rfl, b4, f4⟩
      refine hK _ _ ?_
      clear hK K
      refine wpList_alloc_k rfl 34 rfl (alloc_zero _) ?_
      simp only [Act.put, List.setIfInBounds_toArray, List.set_cons_zero, List.set_cons_succ]
      refine wpList_store_row rfl 34 _ _ rfl (w4.heap.size) cp rfl rfl 34 zeros32 (heap_new _ _) HPI.out HPZ.out HPA.out ?_
      simp only [Act.put]
      have K4 : Kept w4.heap.size w4.heap.size w4 (w4.alloc (.cells zeros32 34)) := (Kept.refl _ _ _).alloc (Nat.le_refl _) _
      have K5 : Kept w4.heap.size w4.heap.size w4 ((w4.alloc (.cells zeros32 34)).setRow w4.heap.size cp) := Kept.ofBelow (below_setRow (K4.below (Nat.le_refl _) (Nat.le_refl _)) (Nat.le_refl _) cp) (Nat.le_refl _)
      have r5 := setRow_heap (w4.alloc (.cells zeros32 34)) w4.heap.size zeros32 cp _ _ (heap_new _ _)
      generalize (w4.alloc (.cells zeros32 34)).setRow w4.heap.size cp = w5 at K5 r5 ⊢
      generalize w4.heap.size = wm at r5 ⊢
      have c4 : base ≤ w4.heap.size := f4.base B3.out
      have b5 := b4.kept K5
      have f5 : BkFr base w3 w5 := f4.trans (BkFr.ofKept c4 K5)
      have hP5 := f5.row HP3.out
      have hKW : ∀ w', BkFr base w5 w' → Kept w1.heap.size w1.heap.size w1 w' := fun w' ff => by
        have e := HBASE.out
        have kk : Kept base base w3 w' := (f5.trans ff).kept
        rw [e] at kk
        exact HK3.out.trans kk
      have hAs : ∀ w', BkFr base w5 w' → As w' (.slice zad L.length zc) L := fun w' ff => HL1.out.kept (hKW w' ff)
      have hlow : ∀ i (_ : i < L.length), zad = some ⟨zg, zo, none⟩ → True := fun _ _ _ => trivial
      clear hlow
      obtain ⟨fs0, hfs0⟩ : ∃ fs0, fs0 = Bk.note [] ([a], [Pm.mark (Pm.pub a)]) := ⟨_, rfl⟩
      rw [← hfs0] at b5
      have hf0 : ([a], [Pm.mark (Pm.pub a)]) ∈ fs0 := by rw [hfs0]; exact notes_hold _ _ (by simp)
      have hf1 : fs0.length ≤ 1 := by rw [hfs0]; exact bknote_length _ _
      have hf2 : ∀ f ∈ fs0, f.1.length = 1 ∧ f.2.length ≤ 1 := fun f hf => by
        rw [hfs0] at hf
        rcases bknote_mem _ _ _ hf with h | rfl
        · cases h
        · exact ⟨rfl, Nat.le_refl _⟩
      have HAS := Lib.hid hAs
      have HKW := Lib.hid hKW
      have HB5 := Lib.hid b5
      have HP5 := Lib.hid hP5
      have HR5 := Lib.hid r5
      have HF0 := Lib.hid hf0
      have HF1 := Lib.hid hf1
      have HF2 := Lib.hid hf2
      have B5 := Lib.hid (f5.base B3.out)
      clear hAs hKW b5 hP5 r5 hf0 hf1 hf2 hfs0 K4 K5 c4 b4 f4 f5 HP3 HPUB HNB HP1
      go_upto_region 5 with fail
      as_aux_lemma =>
        go_wp2_with fail
        go_loopw [7] (fun i w9 => ∃ k : Nat, k ≤ L.length ∧ i = .int .i64 (k : Int) ∧ Hid (∀ x ∈ L.take k, x.text.size ≤ 200 ∧ x.secs.length ≤ 40) ∧ Hid (InBook w9 base bb (Pm.wnotes (Pm.pub a) fs0 (L.take k)) (3 + 9 * k)) ∧ Hid (BkFr base w5 w9)) (fun i _ => L.length - (RowKit.intOf i).toNat)
        case atStart => exact ⟨0, by omega, rfl, Lib.hid (fun x hx => by simp at hx), Lib.hid (by rw [List.take_zero]; exact HB5.out), Lib.hid (BkFr.refl _ _)⟩
        case round =>
          as_aux_lemma =>
            obtain ⟨k, hk, rfl, hT, hI, hF⟩ := hrel
            by_cases hlt : k < L.length
            · obtain ⟨h0, zad2, zg2, zo2, zc2, zeq, hcell⟩ := HAS.out wr hF.out
              cases zeq
              obtain ⟨ez, hg, ckd, cA, cB, cT, sv, cS, hS, hW⟩ := hcell k hlt
              have hgb : zg2 < base := by
                obtain ⟨_, ad1, g1, o1, c1, e1, hc1⟩ := HL1.out
                cases e1
                obtain ⟨e2, hg1, _⟩ := hc1 k hlt
                rw [ez] at e2
                cases e2
                rw [HBASE.out]
                exact hg1
              subst ez
              obtain ⟨x32, y32, tmax⟩ := h0 _ (List.getElem_mem hlt)
              obtain ⟨sq, sad, sg, so, scp, rfl, sq2⟩ := id hS
              clear sq sq2 ckd cA hcell h0
              have hsvs : ∀ w', BkFr base wr w' → Hs w' (.slice sad L[k].secs.length scp) L[k].secs := fun w' ff => by
                obtain ⟨_, ad3, g3, o3, c3, e3, hc3⟩ := HAS.out w' (hF.out.trans ff)
                cases e3
                obtain ⟨e4, _, _, _, _, _, sv4, cs4, hs4, _⟩ := hc3 k hlt
                cases e4
                have e5 := cs4.symm.trans ((ff.kept.cell (p := ⟨zg2, zo2 + k * 67 + 66, none⟩) hgb (Nat.ne_of_lt hgb)).trans cS)
                cases Option.some.inj e5
                exact hs4
              have hln : (k : Int) < (L.length : Int) := by omega
              have hk0 : ¬ (k : Int) < 0 := by omega
              have htk := List.take_succ_eq_append_getElem hlt
              have hmo := Pm.wnotes_more (Pm.pub a) fs0 L k hlt
              generalize L[k] = x at cB cT cS hS x32 y32 tmax htk hmo hsvs hW
              obtain ⟨cb, hcb⟩ : ∃ cb, cb = (bcells x.b).toArray := ⟨_, rfl⟩
              have hbl : (Try.prog.info? 34).map (·.size) = some (bcells x.b).length := by rw [shaInfo30, bcells_length, y32]
              have hts : x.text.data.toList.length = x.text.size := by simp
              obtain ⟨xt, hxt⟩ : ∃ xt, xt = x.text := ⟨_, rfl⟩
              have hbr : base ≤ wr.heap.size := hF.out.base B5.out
              have hdr : Kept wr.heap.size wr.heap.size wr wr.drew := (Kept.refl _ _ _).drew
              have hrow : ∀ w', Kept base base wr w' → w'.cell? ⟨zg2, zo2 + k * 67 + 65, none⟩ = some (.string xt) ∧ w'.cell? ⟨zg2, zo2 + k * 67 + 66, none⟩ = some (.slice sad x.secs.length scp) ∧ (loadVar 34 ⟨zg2, zo2 + k * 67 + 33, none⟩).run Try.prog w' = .ok (.agg cb) w' := fun w' kk =>
                ⟨by rw [hxt]; exact (kk.cell (p := ⟨zg2, zo2 + k * 67 + 65, none⟩) hgb (Nat.ne_of_lt hgb)).trans cT, (kk.cell (p := ⟨zg2, zo2 + k * 67 + 66, none⟩) hgb (Nat.ne_of_lt hgb)).trans cS, by rw [hcb]; exact run_loadVar_mid w' zg2 (zo2 + k * 67 + 33) 34 (bcells x.b) _ (rangeAt_kept kk cB hgb (Nat.ne_of_lt hgb)) Try.underlying34 rfl hbl⟩
              have hwm : ∀ w', BkFr base w5 w' → w'.heap[wm]? = some (.cells cp 34 (0, 0)) := fun w' ff => ff.row HR5.out
              have c65 := (hrow wr (Kept.refl _ _ _)).1
              have c66 := (hrow wr (Kept.refl _ _ _)).2.1
              have HROW := Lib.hid hrow
              have HSVS := Lib.hid hsvs
              have HTK := Lib.hid htk
              have HMO := Lib.hid hmo
              have HWM := Lib.hid hwm
              have HBR := Lib.hid hbr
              have HCB := Lib.hid hcb
              have HY32 := Lib.hid y32
              have HXT := Lib.hid hxt
              have HTS := Lib.hid hts
              have HW := Lib.hid hW
              have HGB := Lib.hid hgb
              have HTM := Lib.hid tmax
              clear hrow hsvs htk hmo hwm hbr hcb y32 x32 hbl hxt hts hW hdr cB cT cS hS hgb hg tmax
              go_upto_region 8 with fail
              as_aux_lemma =>
                refine wp_region_lit ?_
                refine @BigFrame.wpList_want _ _ _ _ _ _ _ ?hwg00 ?_
                case hwg00 => kernel_rfl
                intro K hK
                go_simp
                refine hK _ _ ?_
                clear hK K
                refine @BigFrame.wpList_want _ _ _ _ _ _ _ ?hwg01 ?_
                case hwg01 => kernel_rfl
                intro K hK
                go_simp
                refine hK _ _ ?_
                clear hK K
                refine @BigFrame.wpList_want _ _ _ _ _ _ _ ?hwg02 ?_
                case hwg02 => kernel_rfl
                intro K hK
                go_simp
                refine hK _ _ ?_
                clear hK K
                refine @BigFrame.wpList_want _ _ _ _ _ _ _ ?hwg03 ?_
                case hwg03 => kernel_rfl
                intro K hK
                go_simp
                refine hK _ _ ?_
                clear hK K
                refine @BigFrame.wpList_want _ _ _ _ _ _ _ ?hwg04 ?_
                case hwg04 => kernel_rfl
                intro K hK
                go_simp
                refine hK _ _ ?_
                clear hK K
                refine @BigFrame.wpList_want _ _ _ _ _ _ _ ?hwg05 ?_
                case hwg05 => kernel_rfl
                intro K hK
                go_simp
                refine hK _ _ ?_
                clear hK K
                by_cases ht : 200 < xt.size
                · have hd : decide ((200 : Int) < (xt.size : Int)) = true := decide_eq_true (by omega)
                  refine @BigFrame.wpList_want _ _ _ _ _ _ _ ?hwh00 ?_
                  case hwh00 => kernel_rfl
                  intro K hK
                  go_simp
                  refine hK _ _ ?_
                  clear hK K
                  refine @BigFrame.wpList_want _ _ _ _ _ _ _ ?hwh01 ?_
                  case hwh01 => kernel_rfl
                  intro K hK
                  go_simp
                  refine hK _ _ ?_
                  clear hK K
                  refine @wpList_skip _ _ _ _ _ _ _ ?hwi00 ?_
                  case hwi00 => kernel_rfl
                  simp only [Act.put, List.setIfInBounds_toArray, List.set_cons_zero, List.set_cons_succ]
                  refine @wpList_skip _ _ _ _ _ _ _ ?hwi01 ?_
                  case hwi01 => kernel_rfl
                  simp only [Act.put, List.setIfInBounds_toArray, List.set_cons_zero, List.set_cons_succ]
                  refine @wpList_skip _ _ _ _ _ _ _ ?hwi02 ?_
                  case hwi02 => kernel_rfl
                  simp only [Act.put, List.setIfInBounds_toArray, List.set_cons_zero, List.set_cons_succ]
                  refine @wpList_skip _ _ _ _ _ _ _ ?hwi03 ?_
                  case hwi03 => kernel_rfl
                  simp only [Act.put, List.setIfInBounds_toArray, List.set_cons_zero, List.set_cons_succ]
                  refine @wpList_skip _ _ _ _ _ _ _ ?hwi04 ?_
                  case hwi04 => kernel_rfl
                  simp only [Act.put, List.setIfInBounds_toArray, List.set_cons_zero, List.set_cons_succ]
                  refine @wpList_skip _ _ _ _ _ _ _ ?hwi05 ?_
                  case hwi05 => kernel_rfl
                  simp only [Act.put, List.setIfInBounds_toArray, List.set_cons_zero, List.set_cons_succ]
                  refine @wpList_skip _ _ _ _ _ _ _ ?hwi06 ?_
                  case hwi06 => kernel_rfl
                  simp only [Act.put, List.setIfInBounds_toArray, List.set_cons_zero, List.set_cons_succ]
                  refine @BigFrame.wpList_want _ _ _ _ _ _ _ ?hwj0 ?_
                  case hwj0 => kernel_rfl
                  intro K hK
                  go_simp
                  refine hK _ _ ?_
                  clear hK K
                  go_wp2
                  go_ret
                  exact ⟨rfl, HK1.out.trans ((HKW.out wr hF.out).mono HK1.out.size (fun i hi _ => by have := HK1.out.size; omega))⟩
                have hd : decide ((200 : Int) < (xt.size : Int)) = false := decide_eq_false (by omega)
                refine @BigFrame.wpList_want _ _ _ _ _ _ _ ?hwk00 ?_
                case hwk00 => kernel_rfl
                intro K hK
                go_simp
                refine hK _ _ ?_
                clear hK K
                refine @BigFrame.wpList_want _ _ _ _ _ _ _ ?hwk01 ?_
                case hwk01 => kernel_rfl
                intro K hK
                go_simp
                refine hK _ _ ?_
                clear hK K
                refine @BigFrame.wpList_want _ _ _ _ _ _ _ ?hwk02 ?_
                case hwk02 => kernel_rfl
                intro K hK
                go_simp
                refine hK _ _ ?_
                clear hK K
                refine @BigFrame.wpList_want _ _ _ _ _ _ _ ?hwk03 ?_
                case hwk03 => kernel_rfl
                intro K hK
                go_simp
                refine hK _ _ ?_
                clear hK K
                refine @BigFrame.wpList_want _ _ _ _ _ _ _ ?hwk04 ?_
                case hwk04 => kernel_rfl
                intro K hK
                go_simp
                refine hK _ _ ?_
                clear hK K
                refine @BigFrame.wpList_want _ _ _ _ _ _ _ ?hwk05 ?_
                case hwk05 => kernel_rfl
                intro K hK
                go_simp
                refine hK _ _ ?_
                clear hK K
                refine @BigFrame.wpList_want _ _ _ _ _ _ _ ?hwk06 ?_
                case hwk06 => kernel_rfl
                intro K hK
                go_simp
                refine hK _ _ ?_
                clear hK K
                refine @BigFrame.wpList_want _ _ _ _ _ _ _ ?hwk07 ?_
                case hwk07 => kernel_rfl
                intro K hK
                go_simp
                refine hK _ _ ?_
                clear hK K
                by_cases hs : 40 < x.secs.length
                · have hd2 : decide ((40 : Int) < (x.secs.length : Int)) = true := decide_eq_true (by omega)
                  refine @BigFrame.wpList_want _ _ _ _ _ _ _ ?hwl00 ?_
                  case hwl00 => kernel_rfl
                  intro K hK
                  go_simp
                  refine hK _ _ ?_
                  clear hK K
                  refine @BigFrame.wpList_want _ _ _ _ _ _ _ ?hwl01 ?_
                  case hwl01 => kernel_rfl
                  intro K hK
                  go_simp
                  refine hK _ _ ?_
                  clear hK K
                  go_wp2
                  go_ret
                  exact ⟨rfl, HK1.out.trans ((HKW.out wr hF.out).mono HK1.out.size (fun i hi _ => by have := HK1.out.size; omega))⟩
                have hd2 : decide ((40 : Int) < (x.secs.length : Int)) = false := decide_eq_false (by omega)
                refine @BigFrame.wpList_want _ _ _ _ _ _ _ ?hwm00 ?_
                case hwm00 => kernel_rfl
                intro K hK
                go_simp
                refine hK _ _ ?_
                clear hK K
                refine @BigFrame.wpList_want _ _ _ _ _ _ _ ?hwm01 ?_
                case hwm01 => kernel_rfl
                intro K hK
                go_simp
                refine hK _ _ ?_
                clear hK K
                have ht2 : x.text.size ≤ 200 ∧ x.secs.length ≤ 40 := ⟨by rw [← HXT.out]; omega, by omega⟩
                have hT2 : ∀ y ∈ L.take (k + 1), y.text.size ≤ 200 ∧ y.secs.length ≤ 40 := fun y hy => by
                  rw [HTK.out] at hy
                  rcases List.mem_append.1 hy with h | h
                  · exact hT.out y h
                  · rw [List.mem_singleton.1 h]
                    exact ht2
                obtain ⟨fk, hfk⟩ : ∃ fk, fk = Pm.wnotes (Pm.pub a) fs0 (L.take k) := ⟨_, rfl⟩
                have hlen : fk.length ≤ 1 + 3 * k := by
                  have h1 := Pm.wnotes_length (Pm.pub a) (L.take k) fs0
                  have h2 := HF1.out
                  rw [List.length_take] at h1
                  rw [hfk]
                  omega
                have hmem : ∀ f ∈ fk, f.1.length < 1000000 ∧ f.2.length < 1000000 := fun f hf => by
                  rw [hfk] at hf
                  rcases Pm.wnotes_mem (Pm.pub a) f 40 (L.take k) fs0 (fun y hy => (hT.out y hy).2) hf with h | h
                  · have := HF2.out f h
                    omega
                  · omega
                have hIk := hI.out
                rw [← hfk] at hIk
                obtain ⟨nk, hnk⟩ : ∃ nk, nk = 3 + 9 * k := ⟨_, rfl⟩
                rw [← hnk] at hIk
                have hdr : Kept wr.heap.size wr.heap.size wr wr.drew := (Kept.refl _ _ _).drew
                have hfd : BkFr base wr wr.drew := BkFr.ofKept HBR.out hdr
                have hmild : MildK 9 fk nk := ⟨by omega, by omega, hmem⟩
                have hm1 := hmild.more ([Pm.mark (Pm.pub a)], [Pm.kem (Pm.pub a) x.b]) (by show 1 < _; decide) (by show 1 < _; decide)
                have hm2 := hm1.more ([x.b], [Pm.kem (Pm.pub a) x.b]) (by show 1 < _; decide) (by show 1 < _; decide)
                obtain ⟨sl, hsl⟩ : ∃ sl, sl = Pm.sealed (Pm.kem (Pm.pub a) x.b) (⟨#[97, 98, 111, 117, 116]⟩ : ByteArray).data.toList x.text.data.toList := ⟨_, rfl⟩
                have hsll : sl.length = x.text.size + 16 := by rw [hsl, Pm.sealed_length, HTS.out]
                have hwrap := wrap_book base bb nk fk (Pm.wnote (Pm.pub a) fk x) (Pm.pub a) x.b (Lib.hid (Pm.pub_length a)) (Lib.hid HY32.out) ⟨#[97, 98, 111, 117, 116]⟩ x.text.data.toList sl (by omega) x.secs sad scp wr.drew (hIk.kept hdr) (Nat.le_trans HBR.out hdr.size) hmild (fun w' ff => HSVS.out w' (hfd.trans ff)) (fun w' hi hb' hh => by
                  rw [hsl]
                  exact seal_book base bb (nk + 6) _ (Pm.kem (Pm.pub a) x.b) (Lib.hid (Pm.kem_length _ _)) ⟨#[97, 98, 111, 117, 116]⟩ (Lib.hid (by decide)) x.text.data.toList (Lib.hid (by rw [HTS.out]; omega)) x.secs _ w' hi hb' hm2.mild hh HW.out (by omega))
                rw [str_of, ← HCP.out, ← HCB.out, ← HXT.out] at hwrap
                generalize (if (sl == []) = true then (⟨#[]⟩ : ByteArray) else str (x.b ++ sl)) = wres at hwrap
                have HWRAP := Lib.hid hwrap
                have HFK := Lib.hid hfk
                have HNK := Lib.hid hnk
                have HT2 := Lib.hid hT2
                have HFD := Lib.hid hfd
                clear hwrap hfk hnk hT2 hfd hdr hmild hm1 hm2 hsl hsll hIk hmem hlen ht2 ht hs hd hd2 c65 c66
                have hs0 : ∀ w', Kept base base wr w' ∧ w'.heap[wm]? = some (.cells cp 34 (0, 0)) → (loadVar 34 ⟨wm, 0, none⟩).run Try.prog w' = .ok (.agg cp) w' := fun w' hh => run_loadVar_row w' wm 34 34 cp (0, 0) _ hh.2 Try.underlying34 rfl HPI.out
                have HLW := Lib.hid hs0
                clear hs0
                have hsd : Kept base base wr wr.drew ∧ wr.drew.heap[wm]? = some (.cells cp 34 (0, 0)) := ⟨(Kept.refl _ _ _).drew, HWM.out wr hF.out⟩
                go_upto_region 10 with fail
                as_aux_lemma =>
                  refine wp_region_noPanic ?_
                  refine wp_region_held_drew (S := fun w' => Kept base base wr w' ∧ w'.heap[wm]? = some (.cells cp 34 (0, 0))) (by kernel_rfl) (hsd) (fun hH => ?_)
                  refine wpAnyH_take_at (i := 0) 45 (.pointer (some ⟨bb, 0, none⟩)) rfl rfl (by kernel_rfl) (by kernel_rfl) (by kernel_rfl) (fun _ _ _ h => h) (.inl ⟨by kernel_rfl, fun w9 _ => by go_simp⟩) hH ?_
                  simp only [List.setIfInBounds_toArray, List.set_cons_zero, List.set_cons_succ]
                  refine wpAnyH_take_at (i := 1) 46 (.agg cp) rfl rfl (by kernel_rfl) (by kernel_rfl) (by kernel_rfl) (fun _ _ _ h => h) (yieldsIf_load_known (by kernel_rfl) 34 _ rfl (wm) (0) rfl (.agg cp) (fun w' hw' => HLW.out w' hw')) hH ?_
                  simp only [List.setIfInBounds_toArray, List.set_cons_zero, List.set_cons_succ]
                  refine wpAnyH_take_at (i := 2) 47 (.slice (some ⟨zg2, zo2, none⟩) L.length zc) rfl rfl (by kernel_rfl) (by kernel_rfl) (by kernel_rfl) (fun _ _ _ h => h) (.inl ⟨by kernel_rfl, fun w9 _ => by go_simp⟩) hH ?_
                  simp only [List.setIfInBounds_toArray, List.set_cons_zero, List.set_cons_succ]
                  refine wpAnyH_take_at (i := 3) 48 (.int .i64 (k : Int)) rfl rfl (by kernel_rfl) (by kernel_rfl) (by kernel_rfl) (fun _ _ _ h => h) (.inl ⟨by kernel_rfl, fun w9 _ => by go_simp⟩) hH ?_
                  simp only [List.setIfInBounds_toArray, List.set_cons_zero, List.set_cons_succ]
                  refine wpAnyH_take_at (i := 4) 49 (.pointer (some ⟨zg2, zo2 + k * 67, none⟩)) rfl rfl (by kernel_rfl) (by kernel_rfl) (by kernel_rfl) (fun _ _ _ h => h) (.inl ⟨by kernel_rfl, fun w9 _ => by go_simp⟩) hH ?_
                  simp only [List.setIfInBounds_toArray, List.set_cons_zero, List.set_cons_succ]
                  refine wpAnyH_take_at (i := 5) 50 (.pointer (some ⟨zg2, zo2 + k * 67 + 33, none⟩)) rfl rfl (by kernel_rfl) (by kernel_rfl) (by kernel_rfl) (fun _ _ _ h => h) (.inl ⟨by kernel_rfl, fun w9 _ => by go_simp⟩) hH ?_
                  simp only [List.setIfInBounds_toArray, List.set_cons_zero, List.set_cons_succ]
                  refine wpAnyH_take_at (i := 6) 51 (.agg cb) rfl rfl (by kernel_rfl) (by kernel_rfl) (by kernel_rfl) (fun _ _ _ h => h) (yieldsIf_load_known (by kernel_rfl) 34 _ rfl (zg2) (zo2 + k * 67 + 33) rfl (.agg cb) (fun w' hw' => (HROW.out w' hw'.1).2.2)) hH ?_
                  simp only [List.setIfInBounds_toArray, List.set_cons_zero, List.set_cons_succ]
                  refine wpAnyH_take_at (i := 7) 52 (.slice (some ⟨zg2, zo2, none⟩) L.length zc) rfl rfl (by kernel_rfl) (by kernel_rfl) (by kernel_rfl) (fun _ _ _ h => h) (.inl ⟨by kernel_rfl, fun w9 _ => by go_simp⟩) hH ?_
                  simp only [List.setIfInBounds_toArray, List.set_cons_zero, List.set_cons_succ]
                  refine wpAnyH_take_at (i := 8) 53 (.int .i64 (k : Int)) rfl rfl (by kernel_rfl) (by kernel_rfl) (by kernel_rfl) (fun _ _ _ h => h) (.inl ⟨by kernel_rfl, fun w9 _ => by go_simp⟩) hH ?_
                  simp only [List.setIfInBounds_toArray, List.set_cons_zero, List.set_cons_succ]
                  refine wpAnyH_take_at (i := 9) 54 (.pointer (some ⟨zg2, zo2 + k * 67, none⟩)) rfl rfl (by kernel_rfl) (by kernel_rfl) (by kernel_rfl) (fun _ _ _ h => h) (.inl ⟨by kernel_rfl, fun w9 _ => by go_simp⟩) hH ?_
                  simp only [List.setIfInBounds_toArray, List.set_cons_zero, List.set_cons_succ]
                  refine wpAnyH_take_at (i := 10) 55 (.pointer (some ⟨zg2, zo2 + k * 67 + 65, none⟩)) rfl rfl (by kernel_rfl) (by kernel_rfl) (by kernel_rfl) (fun _ _ _ h => h) (.inl ⟨by kernel_rfl, fun w9 _ => by go_simp⟩) hH ?_
                  simp only [List.setIfInBounds_toArray, List.set_cons_zero, List.set_cons_succ]
                  refine wpAnyH_take_at (i := 11) 56 (.string xt) rfl rfl (by kernel_rfl) (by kernel_rfl) (by kernel_rfl) (fun _ _ _ h => h) (.inl ⟨by kernel_rfl, fun w9 hw9 => by have c65 := (HROW.out w9 hw9.1).1; go_simp⟩) hH ?_
                  simp only [List.setIfInBounds_toArray, List.set_cons_zero, List.set_cons_succ]
                  refine wpAnyH_take_at (i := 12) 57 (.slice (some ⟨zg2, zo2, none⟩) L.length zc) rfl rfl (by kernel_rfl) (by kernel_rfl) (by kernel_rfl) (fun _ _ _ h => h) (.inl ⟨by kernel_rfl, fun w9 _ => by go_simp⟩) hH ?_
                  simp only [List.setIfInBounds_toArray, List.set_cons_zero, List.set_cons_succ]
                  refine wpAnyH_take_at (i := 13) 58 (.int .i64 (k : Int)) rfl rfl (by kernel_rfl) (by kernel_rfl) (by kernel_rfl) (fun _ _ _ h => h) (.inl ⟨by kernel_rfl, fun w9 _ => by go_simp⟩) hH ?_
                  simp only [List.setIfInBounds_toArray, List.set_cons_zero, List.set_cons_succ]
                  refine wpAnyH_take_at (i := 14) 59 (.pointer (some ⟨zg2, zo2 + k * 67, none⟩)) rfl rfl (by kernel_rfl) (by kernel_rfl) (by kernel_rfl) (fun _ _ _ h => h) (.inl ⟨by kernel_rfl, fun w9 _ => by go_simp⟩) hH ?_
                  simp only [List.setIfInBounds_toArray, List.set_cons_zero, List.set_cons_succ]
                  refine wpAnyH_take_at (i := 15) 60 (.pointer (some ⟨zg2, zo2 + k * 67 + 66, none⟩)) rfl rfl (by kernel_rfl) (by kernel_rfl) (by kernel_rfl) (fun _ _ _ h => h) (.inl ⟨by kernel_rfl, fun w9 _ => by go_simp⟩) hH ?_
                  simp only [List.setIfInBounds_toArray, List.set_cons_zero, List.set_cons_succ]
                  refine wpAnyH_take_at (i := 16) 61 (.slice sad x.secs.length scp) rfl rfl (by kernel_rfl) (by kernel_rfl) (by kernel_rfl) (fun _ _ _ h => h) (.inl ⟨by kernel_rfl, fun w9 hw9 => by have c66 := (HROW.out w9 hw9.1).2.1; go_simp⟩) hH ?_
                  simp only [List.setIfInBounds_toArray, List.set_cons_zero, List.set_cons_succ]
                  refine wpAnyH_ready (rs := [17]) (by kernel_rfl) (by simp) ?_
                  refine AllReadyH.cons rfl (fun K hK => ?_) AllReadyH.nil
                  rw [if_pos (by rfl)]
                  go_simp
                  go_wp2_with (go_at_call 40; refine HWRAP.out.mono ?_; rintro e w6 ⟨rfl, b6, f6⟩)
                  have ff6 := HFD.out.trans f6
                  refine hK.out _ _ (⟨ff6.kept, ff6.row (HWM.out wr hF.out)⟩) (fun hH => ?_)
                  clear hK K
                  refine wpAnyH_done (by kernel_rfl) ?_ _
                  refine NoPanic.normal ?_
                  have b7 : InBook w6 base bb (Pm.wnotes (Pm.pub a) fs0 (L.take (k + 1))) (3 + 9 * (k + 1)) := by
                    rw [HMO.out, ← HFK.out]
                    exact b6.more (by have := HNK.out; omega)
                  have HB7 := Lib.hid b7
                  have HF7 := Lib.hid (hF.out.trans ff6)
                  clear b7 b6 f6 ff6
                  go_wp2
                  exact ⟨⟨k + 1, by omega, by rw [Int.natCast_add]; rfl, HT2, HB7, HF7⟩, by simp only [RowKit.intOf]; omega⟩
            · obtain rfl : k = L.length := by omega
              rw [List.take_of_length_le (Nat.le_refl _)] at hI hT
              obtain ⟨fk, hfk⟩ : ∃ fk, fk = Pm.wnotes (Pm.pub a) fs0 L := ⟨_, rfl⟩
              have hlen : fk.length ≤ 1 + 3 * L.length := by
                have h1 := Pm.wnotes_length (Pm.pub a) L fs0
                have h2 := HF1.out
                rw [hfk]
                omega
              have hmem : ∀ f ∈ fk, f.1.length = 1 ∧ f.2.length ≤ 41 := fun f hf => by
                rw [hfk] at hf
                rcases Pm.wnotes_mem (Pm.pub a) f 40 L fs0 (fun y hy => (hT.out y hy).2) hf with h | h
                · have := HF2.out f h
                  omega
                · exact h
              have hcl : ∀ x ∈ L, ∀ s ∈ x.secs, Bk.Cl fk [a] s := fun x hx s hs => by
                rw [hfk]
                exact Pm.learns_cl a fs0 L HF0.out hx hs
              have houts : (Bk.outs fk).length ≤ 5000 := by
                have h1 := outs_le 41 fk (fun f hf => (hmem f hf).2)
                have h2 : fk.length * 41 ≤ 121 * 41 := Nat.mul_le_mul_right 41 (by omega)
                omega
              have hIk := hI.out
              rw [← hfk] at hIk
              have hbr : base ≤ wr.heap.size := hF.out.base B5.out
              have ka1 : Kept wr.heap.size wr.heap.size wr (wr.alloc (.cells ka 34)) := (Kept.refl _ _ _).alloc (Nat.le_refl _) _
              have hfol : ∀ w' (u : Value) (F : List (List UInt8)), Kept wr.heap.size wr.heap.size wr w' → Hs w' u F → F.length ≤ 1 → Calls Try.prog 17 #[.pointer (some ⟨bb, 0, none⟩), u] w' fun e w2 => ∃ r M, e = .returned r ∧ Hs w2 r M ∧ Bk.Is fk F M ∧ Kept w'.heap.size w'.heap.size w' w2 := fun w' u F kk hu hF1 => by
                obtain ⟨n', hn', S', hB'⟩ := hIk.kept kk
                exact follows_book _ _ _ _ _ _ F _ _ hB' hu (by omega) (by omega) (by omega) (fun f hf => by have := hmem f hf; omega)
              have hf1 := hfol _ (.slice (some ⟨wr.heap.size, 0, none⟩) 1 1) [a] ka1 (hs_one ha (by rw [← HKA.out]; exact heap_new _ _)) (by simp)
              have hPr := hF.out.row HP5.out
              have hone : ∀ f ∈ fk, f.1.length = 1 := fun f hf => (hmem f hf).1
              have HFOL := Lib.hid hfol
              have HFA := Lib.hid hf1
              have HPR := Lib.hid hPr
              have HONE := Lib.hid hone
              have HCL := Lib.hid hcl
              have HKA1 := Lib.hid ka1
              have HOUTS := Lib.hid houts
              have HFF := hF
              have hss40 : ∀ x ∈ L, x.secs.length ≤ 40 := fun x hx => (hT.out x hx).2
              have HSS40 := Lib.hid hss40
              clear hss40
              clear hfk hlen hmem hcl houts hIk hbr ka1 hfol hf1 hPr hone hI hT HF0 HF1 HF2 HB5 HR5 HP5
              go_upto_region 11 with fail
              as_aux_lemma =>
                refine wp_region_lit ?_
                refine @BigFrame.wpList_want _ _ _ _ _ _ _ ?hwn0 ?_
                case hwn0 => kernel_rfl
                intro K hK
                go_simp
                refine hK _ _ ?_
                clear hK K
                refine wpList_load_row_g ?hwn1 34 _ rfl (wa) rfl 34 ka (0, 0) _ (HPR.out) Try.underlying34 rfl HAI.out ?_
                case hwn1 => kernel_rfl
                simp only [Act.put, List.setIfInBounds_toArray, List.set_cons_zero, List.set_cons_succ]
                refine wpList_build_one_g ?hwn2 _ 23 34 rfl i0 z0 Try.underlying23 HI0.out HZ0.out ka rfl (by rw [HS0.out]; exact HA32.out) (by rw [HS0.out]; decide) (by rw [HS0.out]; decide) ?_
                case hwn2 => kernel_rfl
                simp only [Act.put, List.setIfInBounds_toArray, List.set_cons_zero, List.set_cons_succ]
                refine @BigFrame.wpList_want _ _ _ _ _ _ _ ?hwn3 ?_
                case hwn3 => kernel_rfl
                intro K hK
                go_simp
                go_at_call 17; refine HFA.out.mono ?_; rintro e w7 ⟨z, M, rfl, hM, hIM, k7⟩
                refine hK _ _ ?_
                clear hK K
                have K7 := HKA1.out.trans (k7.mono HKA1.out.size (fun i hi _ => by have := HKA1.out.size; omega))
                have hMl := is_length hIM
                have hMl2 : M.length ≤ 10000 := by
                  have := HOUTS.out
                  rw [List.length_singleton] at hMl
                  omega
                have hpl5 := plain5_calls M z w7 hM (by omega)
                have HPL := Lib.hid hpl5
                clear hpl5 hMl hM k7
                refine @BigFrame.wpList_want _ _ _ _ _ _ _ ?hwn4 ?_
                case hwn4 => kernel_rfl
                intro K hK
                go_simp
                go_at_call 44; refine HPL.out.mono ?_; rintro e w8 ⟨y, rfl, o8, k8⟩
                refine hK _ _ ?_
                clear hK K
                have K8 := K7.trans (k8.mono K7.size (fun i hi _ => by have := K7.size; omega))
                have hhas : ∀ w', Kept w8.heap.size w8.heap.size w8 w' → ∀ x ∈ L, ∀ s ∈ x.secs, s.length = 32 → Calls Try.prog 50 #[y, .agg (bcells s).toArray] w' fun e w2 => e = .returned (.bool true) ∧ Kept w'.heap.size w'.heap.size w' w2 := fun w' kk x hx s hs h32 => by
                  have h1 := has_calls M s h32 y w' (o8.kept kk (Nat.le_refl _)).hs (by omega)
                  rw [(inList_mem M s).2 ((hIM.mem s).2 (HCL.out x hx s hs))] at h1
                  exact h1
                have hf8 : BkFr base w5 w8 := HFF.out.trans (BkFr.ofKept (HFF.out.base B5.out) K8)
                have hA8 : As w8 (.slice zad L.length zc) L := HAS.out w8 hf8
                have hnil : ∀ w', Kept w8.heap.size w8.heap.size w8 w' → Calls Try.prog 17 #[.pointer (some ⟨bb, 0, none⟩), .slice none 0 0] w' fun e w2 => (∃ ad c, e = .returned (.slice ad 0 c)) ∧ Kept w'.heap.size w'.heap.size w' w2 := fun w' kk =>
                  (HFOL.out w' (.slice none 0 0) [] (K8.trans (kk.mono K8.size (fun i hi _ => by have := K8.size; omega))) (Hs.nil w') (by simp)).mono fun e w2 hh => by
                    obtain ⟨r, N, rfl, hN, hIN, kk2⟩ := hh
                    have hN0 : N = [] := by
                      cases N with
                      | nil => rfl
                      | cons q N => exact absurd ((hIN.mem q).1 (by simp)) (Pm.none_cl HONE.out q)
                    subst hN0
                    obtain ⟨_, ad, _, _, c, rfl, _⟩ := hN
                    exact ⟨⟨ad, c, rfl⟩, kk2⟩
                have hK8 : Kept w.heap.size w.heap.size w w8 := HK1.out.trans ((HKW.out w8 hf8).mono HK1.out.size (fun i hi _ => by have := HK1.out.size; omega))
                obtain ⟨_, ad9, g9, o9, c9, e9, hcell⟩ := hA8
                cases e9
                have HHAS := Lib.hid hhas
                have HNIL := Lib.hid hnil
                have HK8 := Lib.hid hK8
                have HCELL := Lib.hid hcell
                clear hhas hnil hK8 hcell hf8 o8 K8 K7 k8 hIM hMl2 HPL HFOL HFA HPR HONE HCL HKA1 HOUTS HFF hF HAS HKW HL1 HBASE HK3 B3 B5 HK1
                have hinfo : (Try.prog.info? 34).map (·.size) = some 32 := shaInfo30
                have HINFO := Lib.hid hinfo
                clear hinfo
                go_wp2_with fail
                go_loopw [9] (fun i w9 => ∃ k : Nat, k ≤ L.length ∧ i = .int .i64 (k : Int) ∧ Hid (Kept w8.heap.size w8.heap.size w8 w9)) (fun i _ => L.length - (RowKit.intOf i).toNat)
                case atStart => exact ⟨0, by omega, rfl, Lib.hid (Kept.refl _ _ _)⟩
                case round =>
                  as_aux_lemma =>
                    obtain ⟨k, hk, rfl, hK⟩ := hrel
                    by_cases hlt : k < L.length
                    · obtain ⟨rfl, hg, _, _, _, _, sv, cS, hS, _⟩ := HCELL.out k hlt
                      obtain ⟨s32, sad, sg, so, scp, rfl, scell⟩ := hS
                      have hln : (k : Int) < (L.length : Int) := by omega
                      have hk0 : ¬ (k : Int) < 0 := by omega
                      have hmx : L[k] ∈ L := List.getElem_mem hlt
                      have hcs : ∀ w', Kept w8.heap.size w8.heap.size w8 w' → w'.cell? ⟨g9, o9 + k * 67 + 66, none⟩ = some (.slice sad L[k].secs.length scp) := fun w' kk => (kk.cell (p := ⟨g9, o9 + k * 67 + 66, none⟩) hg (Nat.ne_of_lt hg)).trans cS
                      have hhx : ∀ w', Kept w8.heap.size w8.heap.size w8 w' → ∀ j (hj : j < L[k].secs.length), sad = some ⟨sg, so, none⟩ ∧ L[k].secs[j].length = 32 ∧ w'.rangeAt sg (so + j * 32) (bcells L[k].secs[j]) ∧ Calls Try.prog 50 #[y, .agg (bcells L[k].secs[j]).toArray] w' fun e w2 => e = .returned (.bool true) ∧ Kept w'.heap.size w'.heap.size w' w2 := fun w' kk j hj => by
                        obtain ⟨a1, a2, a3⟩ := scell j hj
                        have h32 := s32 _ (List.getElem_mem hj)
                        exact ⟨a1, h32, rangeAt_kept kk a3 a2 (Nat.ne_of_lt a2), HHAS.out w' kk L[k] hmx _ (List.getElem_mem hj) h32⟩
                      have hs40 := HSS40.out _ hmx
                      generalize L[k].secs = ss at hcs hhx hs40
                      have HCS := Lib.hid hcs
                      have HHX := Lib.hid hhx
                      clear hcs hhx hmx s32 scell cS hg
                      go_wp2_with fail
                      go_loopw [10] (fun i w9 => ∃ j : Nat, j ≤ ss.length ∧ i = .int .i64 (j : Int) ∧ Hid (Kept w8.heap.size w8.heap.size w8 w9)) (fun i _ => ss.length - (RowKit.intOf i).toNat)
                      case atStart => exact ⟨0, by omega, rfl, hK⟩
                      case round =>
                        as_aux_lemma =>
                          obtain ⟨j, hj, rfl, hK⟩ := hrel
                          have cS := HCS.out wr hK.out
                          by_cases hjl : j < ss.length
                          · obtain ⟨rfl, hx32, hr, hhk⟩ := HHX.out wr hK.out j hjl
                            have hjn : (j : Int) < (ss.length : Int) := by omega
                            have hj0 : ¬ (j : Int) < 0 := by omega
                            have hxl : (Try.prog.info? 34).map (·.size) = some (bcells ss[j]).length := by rw [HINFO.out, bcells_length, hx32]
                            generalize ss[j] = x at hr hhk hxl
                            have HHK := Lib.hid hhk
                            have HR := Lib.hid hr
                            have HXL := Lib.hid hxl
                            clear hhk hr hxl hx32
                            go_wp2_with (first
                              | (with_reducible refine wpList_load_mid rfl 34 _ rfl sg (so + j * 32) rfl (bcells x) _ HR.out Try.underlying34 rfl HXL.out ?_)
                              | (go_at_call 50; refine HHK.out.mono ?_; rintro e w6 ⟨rfl, k6⟩))
                            exact ⟨⟨j + 1, by omega, by rw [Int.natCast_add]; rfl, Lib.hid (hK.out.trans (k6.mono hK.out.size (fun i hi _ => by have := hK.out.size; omega)))⟩, by simp only [RowKit.intOf]; omega⟩
                          · obtain rfl : j = ss.length := by omega
                            have hd3 : decide ((ss.length : Int) < (ss.length : Int)) = false := decide_eq_false (by omega)
                            go_wp2
                            exact ⟨⟨k + 1, by omega, by rw [Int.natCast_add]; rfl, hK⟩, by simp only [RowKit.intOf]; omega⟩
                    · obtain rfl : k = L.length := by omega
                      have hd3 : decide ((L.length : Int) < (L.length : Int)) = false := decide_eq_false (by omega)
                      have hnr := HNIL.out wr hK.out
                      have HNR := Lib.hid hnr
                      clear hnr
                      go_wp2_with (go_at_call 17; refine HNR.out.mono ?_; rintro e w9 ⟨⟨rad, rc, rfl⟩, k9⟩)
                      go_ret
                      exact ⟨rfl, HK8.out.trans ((hK.out.trans (k9.mono hK.out.size (fun i hi _ => by have := hK.out.size; omega))).mono HK8.out.size (fun i hi _ => by have := HK8.out.size; omega))⟩

end Go.Proofs.Ytdedookpdnbdiaa
