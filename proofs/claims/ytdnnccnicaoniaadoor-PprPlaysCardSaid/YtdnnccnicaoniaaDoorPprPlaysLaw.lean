/-
  The statement PprPlays: its walk.
-/
import Derived.Test.YtdnnccnicaoniaaDoorPprPlay
import Derived.Test.YtdnnccnicaoniaaDoorHeldEx

namespace Go.Proofs.YtdnnccnicaoniaaDoor
open Go.RowKit Go.Lib

set_option maxRecDepth 100000 in
set_option maxHeartbeats 12800000 in
theorem pprplays_walk (l : List UInt8) (hl : l.length = 32) (bits : Int) (v : Value) (L : List (Int × Int)) (w : World) (hL : Cls w v L) (ht : Tab w) :
    Calls Tryd.prog 3 #[.agg (bcells l).toArray, .int .i64 bits, v] w fun e w' => e = .returned (.bool true) ∧ Kept w.heap.size w.heap.size w w' := by
  obtain ⟨cad, cc, cg, co, rfl, hc⟩ := hL
  have hnew := fun n h1 h2 w => pnew_calls l hl n h1 h2 w
  have hno := fun h w => new_no l bits h w
  have hbld := fun n w => build_newRow w l hl n
  obtain ⟨LD, hLD⟩ : ∃ LD, LD = (bcells l).toArray := ⟨_, rfl⟩
  have HLI := Lib.hid (show (Tryd.prog.info? 23).map (·.size) = some LD.size by rw [hLD]; exact keyInfo hl)
  simp only [← hLD] at hnew hno hbld
  rw [← hLD]
  have HNEW := Lib.hid hnew
  have HNO := Lib.hid hno
  have HBLD := Lib.hid hbld
  have HLL := Lib.hid hl
  have HC := Lib.hid hc
  have HZI := Lib.hid (show (Tryd.prog.info? 23).map (·.size) = some zeros32.size by rw [zeros32_size]; kernel_rfl)
  obtain ⟨ln, hln⟩ : ∃ ln, ln = L.length := ⟨_, rfl⟩
  rw [← hln]
  have HLN := Lib.hid hln
  have HT := Lib.hid ht
  clear hLD hl hnew hno hbld hc hln ht
  have hk1 : Kept w.heap.size w.heap.size w (w.alloc (.cells LD 23)) := (Kept.refl _ _ _).alloc (Nat.le_refl _) _
  have hr1 := heap_new w (.cells LD 23)
  have K1 := Lib.hid hk1
  have R1 := Lib.hid hr1
  clear hk1 hr1
  go_enter Tryd.func3, Tryd.ntmps3
  go_upto_region 1 with fail
  generalize w.alloc (.cells LD 23) = w1 at K1 R1 ⊢
  obtain ⟨wa, hwa⟩ : ∃ wa, wa = w.heap.size := ⟨_, rfl⟩
  rw [← hwa] at R1 ⊢
  clear hwa
  by_cases hlen : ln ≤ 24
  · have HL24 := Lib.hid hlen
    have hlen' : (ln : Int) ≤ 24 := by omega
    clear hlen
    go_upto_region 3 with (go_at_call 6; refine (ppr_awake _).mono ?_; rintro e w2 ⟨rfl, k2⟩; have K2 := Lib.hid (K1.out.next1 k2); have R2 := Lib.hid ((k2.block wa (lt_of_block R1.out) (Nat.ne_of_lt (lt_of_block R1.out))).trans R1.out); clear k2)
    by_cases hout : bits < 1 ∨ 32 < bits
    · have HOUT := Lib.hid hout
      refine wp_region_lit ?_
      refine @wpList_load_known _ _ _ _ _ _ _ ?hw5002 23 (.tmp 3) rfl (wa) (0) rfl (.agg LD) (run_loadVar_row _ wa 23 23 LD (0, 0) _ (R2.out) Tryd.underlying23 rfl (HLI.out)) ?_
      case hw5002 => kernel_rfl
      simp only [Act.put, List.setIfInBounds_toArray, List.set_cons_zero, List.set_cons_succ]
      refine @BigFrame.wpList_want _ _ _ _ _ _ _ ?hw5003 ?_
      case hw5003 => kernel_rfl
      intro K hK
      go_simp
      refine hK _ _ ?_
      clear hK K
      refine @BigFrame.wpList_want _ _ _ _ _ _ _ ?hw5001 ?_
      case hw5001 => kernel_rfl
      intro K hK
      go_simp
      go_at_call 7
      refine (HNO.out HOUT.out _).mono ?_
      rintro e w3 ⟨rfl, k3⟩
      refine hK _ _ ?_
      clear hK K
      refine @BigFrame.wpList_want _ _ _ _ _ _ _ ?hw5004 ?_
      case hw5004 => kernel_rfl
      intro K hK
      go_simp
      refine hK _ _ ?_
      clear hK K
      refine @BigFrame.wpList_want _ _ _ _ _ _ _ ?hw5005 ?_
      case hw5005 => kernel_rfl
      intro K hK
      go_simp
      refine hK _ _ ?_
      clear hK K
      refine @BigFrame.wpList_want _ _ _ _ _ _ _ ?hw5006 ?_
      case hw5006 => kernel_rfl
      intro K hK
      go_simp
      refine hK _ _ ?_
      clear hK K
      refine @BigFrame.wpList_want _ _ _ _ _ _ _ ?hw5007 ?_
      case hw5007 => kernel_rfl
      intro K hK
      go_simp
      refine hK _ _ ?_
      clear hK K
      refine @BigFrame.wpList_want _ _ _ _ _ _ _ ?hw5008 ?_
      case hw5008 => kernel_rfl
      intro K hK
      go_simp
      refine hK _ _ ?_
      clear hK K
      have K3 := Lib.hid (K2.out.next1 k3)
      clear k3
      rcases hout with h1 | h1
      · clear HOUT
        go_wp2
        go_ret
        exact ⟨rfl, K3.out⟩
      · have h2 : ¬ bits < 1 := by omega
        have h3 : bits > 32 := h1
        clear HOUT h1
        go_wp2
        go_ret
        exact ⟨rfl, K3.out⟩
    · obtain ⟨n, rfl⟩ : ∃ n : Nat, bits = (n : Int) := ⟨bits.toNat, by omega⟩
      have hn1 : 1 ≤ n := by omega
      have hn32 : n ≤ 32 := by omega
      have hb1 : ¬ (n : Int) < 1 := by omega
      have hb2 : ¬ (n : Int) > 32 := by omega
      have HN1 := Lib.hid hn1
      have HN32 := Lib.hid hn32
      clear hout hn1 hn32
      refine wp_region_lit ?_
      refine @wpList_load_known _ _ _ _ _ _ _ ?hw5010 23 (.tmp 3) rfl (wa) (0) rfl (.agg LD) (run_loadVar_row _ wa 23 23 LD (0, 0) _ (R2.out) Tryd.underlying23 rfl (HLI.out)) ?_
      case hw5010 => kernel_rfl
      simp only [Act.put, List.setIfInBounds_toArray, List.set_cons_zero, List.set_cons_succ]
      refine @BigFrame.wpList_want _ _ _ _ _ _ _ ?hw5011 ?_
      case hw5011 => kernel_rfl
      intro K hK
      go_simp
      refine hK _ _ ?_
      clear hK K
      refine @BigFrame.wpList_want _ _ _ _ _ _ _ ?hw5009 ?_
      case hw5009 => kernel_rfl
      intro K hK
      go_simp
      go_at_call 7
      refine (HNEW.out n HN1.out HN32.out _).mono ?_
      rintro e w3 ⟨rb, sl0, rfl, hrb, hr3, k3⟩
      refine hK _ _ ?_
      clear hK K
      refine @BigFrame.wpList_want _ _ _ _ _ _ _ ?hw5012 ?_
      case hw5012 => kernel_rfl
      intro K hK
      go_simp
      refine hK _ _ ?_
      clear hK K
      refine @BigFrame.wpList_want _ _ _ _ _ _ _ ?hw5013 ?_
      case hw5013 => kernel_rfl
      intro K hK
      go_simp
      refine hK _ _ ?_
      clear hK K
      refine @BigFrame.wpList_want _ _ _ _ _ _ _ ?hw5014 ?_
      case hw5014 => kernel_rfl
      intro K hK
      go_simp
      refine hK _ _ ?_
      clear hK K
      refine @BigFrame.wpList_want _ _ _ _ _ _ _ ?hw5015 ?_
      case hw5015 => kernel_rfl
      intro K hK
      go_simp
      refine hK _ _ ?_
      clear hK K
      refine @BigFrame.wpList_want _ _ _ _ _ _ _ ?hw5016 ?_
      case hw5016 => kernel_rfl
      intro K hK
      go_simp
      refine hK _ _ ?_
      clear hK K
      have K3 := Lib.hid (K2.out.next1 k3)
      have HR3 := Lib.hid hr3
      have R3 := Lib.hid ((k3.block wa (lt_of_block R2.out) (Nat.ne_of_lt (lt_of_block R2.out))).trans R2.out)
      have HRB := Lib.hid (Nat.le_trans K2.out.size hrb)
      clear k3 hr3 hrb
      go_upto_region 6 with fail
      refine wp_region_lit ?_
      refine @wpList_load_known _ _ _ _ _ _ _ ?hw5017 23 (.tmp 3) rfl (wa) (0) rfl (.agg LD) (run_loadVar_row _ wa 23 23 LD (0, 0) _ (R3.out) Tryd.underlying23 rfl (HLI.out)) ?_
      case hw5017 => kernel_rfl
      simp only [Act.put, List.setIfInBounds_toArray, List.set_cons_zero, List.set_cons_succ]
      refine @BigFrame.wpList_want _ _ _ _ _ _ _ ?hw5018 ?_
      case hw5018 => kernel_rfl
      intro K hK
      go_simp
      refine hK _ _ ?_
      clear hK K
      refine wpList_build_pair rfl 32 0 1 _ _ rfl (.agg LD) (.int .i64 (n : Int)) rfl rfl (HBLD.out n _) ?_
      simp only [Act.put, List.setIfInBounds_toArray, List.set_cons_zero, List.set_cons_succ]
      obtain ⟨RW, hRW⟩ : ∃ RW, RW = newRow l n := ⟨_, rfl⟩
      rw [← hRW]
      have HRS := Lib.hid (show RW.size = 34 by rw [hRW]; exact newRow_size HLL.out n)
      have HRA := Lib.hid (show RW.all (·.oneCell') = true by rw [hRW]; exact newRow_all l n)
      have HRI := Lib.hid (refRowInfo HRS.out)
      have HROW := Lib.hid hRW
      clear hRW
      refine @wpL_alloc _ _ _ _ _ _ _ _ ?hw5019 32 rfl _ (alloc_newRow _) ?_
      case hw5019 => kernel_rfl
      simp only [Act.put, List.setIfInBounds_toArray, List.set_cons_zero, List.set_cons_succ]
      refine wpList_store_row rfl 32 _ _ rfl (w3.heap.size) RW rfl rfl 32 zerosRow (heap_new _ _) (HRI.out) (by rw [zerosRow_size, HRS.out]) (HRA.out) ?_
      simp only [Act.put]
      rw [World.setRow_alloc_new]
      have kk4 : Kept w3.heap.size w3.heap.size w3 (w3.alloc (.cells RW 32)) := (Kept.refl _ _ _).alloc (Nat.le_refl _) _
      have hm4 := heap_new w3 (.cells RW 32)
      rw [HROW.out, newRow] at hm4
      have HP0 : Hid (Pl w (w3.alloc (.cells RW 32)) l n rb w3.heap.size [] [] (.slice none 0 0) sl0) := Lib.hid (by
        have hpos : 0 < w.heap.size := HT.out.lt
        have hK := K3.out.next1 kk4
        refine ⟨?_, by rw [HROW.out, newRow]; exact hm4, OwnI.nil _ _, (fun _ k _ h => by simp [Value.ownBlock] at h), hK, HT.out.kept hK hpos hpos, lt_of_block HR3.out.1, HRB.out, hpos⟩
        rw [Pp.low_whole (show Pp.Whole n [] ⟨0, 0, l⟩ from fun _ h => nomatch h)]
        exact HR3.out.kept kk4)
      clear kk4 hm4
      generalize w3.alloc (.cells RW 32) = w4 at HP0 ⊢
      obtain ⟨mb, hmb⟩ : ∃ mb, mb = w3.heap.size := ⟨_, rfl⟩
      rw [← hmb] at HP0 ⊢
      clear hmb HR3 R3
      go_wp2_with fail
      go_loopw [10] (fun s10 wx => ∃ i : Nat, s10 = .int .i64 (i : Int) ∧ Hid (i ≤ ln) ∧ ∃ P : List Nat, Hid (P.length ≤ i) ∧ Hid (∀ t ∈ P, t < 4294967296) ∧ ∃ T sl : Value, Hid (Pl w wx l n rb mb P P T sl)) (fun s10 _ => ln - (RowKit.intOf s10).toNat)
      case atStart => exact ⟨0, rfl, Lib.hid (Nat.zero_le _), [], Lib.hid (Nat.le_refl _), Lib.hid (fun _ h => nomatch h), _, _, HP0⟩
      case round =>
        obtain ⟨i, rfl, hi, P, HPI, H32, T, sl, HPL⟩ := hrel
        by_cases hlt : i < ln
        · have hiL : i < L.length := by rw [← HLN.out]; exact hlt
          obtain ⟨had, hg, hdo0, hpl0, hd0, hd255⟩ := HC.out i hiL
          subst had
          have hlti : (i : Int) < (ln : Int) := by omega
          have hi0 : ¬ (i : Int) < 0 := by omega
          have HCG := Lib.hid (Nat.lt_of_lt_of_le hg HPL.out.kept.size)
          have HDO := Lib.hid ((HPL.out.kept.cell (p := ⟨cg, co + i * 2, none⟩) hg (Nat.ne_of_lt hg)).trans hdo0)
          have hpl := (HPL.out.kept.cell (p := ⟨cg, co + i * 2 + 1, none⟩) hg (Nat.ne_of_lt hg)).trans hpl0
          generalize L[i].1 = dd at HDO hd0 hd255
          generalize L[i].2 = pl at hpl
          have HLT := Lib.hid hlt
          clear hlt hi hg hdo0 hpl0 hiL
          obtain ⟨Ta, Tg, Tc, hTv, _⟩ := HPL.out.own.shape
          subst hTv
          obtain ⟨T, hTT⟩ : ∃ T, T = Value.slice Ta P.length Tc := ⟨_, rfl⟩
          have HTT := Lib.hid hTT
          clear hTT
          obtain ⟨TS, hTS⟩ : ∃ TS, TS = refRow l n (.slice Ta P.length Tc) := ⟨_, rfl⟩
          have HTS := Lib.hid hTS
          have HMI := Lib.hid (refRowInfo (show TS.size = 34 by rw [hTS]; exact refRow_size HLL.out n _))
          have HM := Lib.hid (fun x (k : Kept wr.heap.size wr.heap.size wr x) => show x.heap[mb]? = some (.cells TS 32 (0, 0)) by rw [HTS.out]; exact (HPL.out.step k).m)
          have HIN := Lib.hid (Pp.low_in n HN32.out P l HLL.out)
          have hP1000 : P.length ≤ 1000 := by have := HPI.out; have := HLT.out; have := HL24.out; omega
          have hwi := fun w => within_calls l HLL.out n HN32.out (.slice Ta P.length Tc) pl w
          rw [← hTS] at hwi
          clear hTS
          by_cases hpo : pl < 0 ∨ ((2 ^ n : Nat) : Int) ≤ pl
          · have ho : Pp.Out n P l pl Pp.z32 1 P := .out hpo
            have HNE := Lib.hid (fun (h : Pp.low n P n ⟨0, 0, l⟩ ≠ []) => h)
            have HWI : Hid (∀ w, Calls Tryd.prog 8 #[.agg TS, .int .i64 pl] w fun e w' => e = .returned (.bool false) ∧ Kept w.heap.size w.heap.size w w') := Lib.hid (fun w => by
              have h := hwi w
              rwa [show (decide (0 ≤ pl) && decide (pl < ((2 ^ n : Nat) : Int))) = false by rw [Bool.and_eq_false_iff, decide_eq_false_iff_not, decide_eq_false_iff_not]; omega] at h)
            have hk32 : Pp.z32.length = 32 := by rfl
            have htk := fun sl w h => play_take n HN32.out P hP1000 l HLL.out rb pl ho sl w h
            have hlk := fun sl w h => play_look n HN32.out P hP1000 l HLL.out rb pl ho sl w h
            have hgn := fun sl w h => play_gone n HN32.out P hP1000 l HLL.out rb pl ho sl w h
            obtain ⟨KD, hKD⟩ : ∃ KD, KD = (bcells Pp.z32).toArray := ⟨_, rfl⟩
            have heq : ∀ w, (Op.equalIn 10000 23 (.agg KD) (.agg KD)).run Tryd.prog w = .ok true w := fun w => by
              rw [hKD]
              have := hash_equalIn w Pp.z32 Pp.z32 hk32 hk32
              rwa [beq_self_eq_true] at this
            have HEQ := Lib.hid heq
            have HQS := Lib.hid (show KD.size = 32 by rw [hKD]; exact keyD_size hk32)
            have HQA := Lib.hid (show KD.all (·.oneCell') = true by rw [hKD]; exact bcells_all _)
            have HQI := Lib.hid (show (Tryd.prog.info? 23).map (·.size) = some KD.size by rw [hKD]; exact keyInfo hk32)
            have HZK := Lib.hid (show zeros32 = KD by rw [hKD, ← zeros_bcells])
            rw [← hKD] at htk hlk
            have HTK := Lib.hid htk
            have HLK := Lib.hid hlk
            have HGN := Lib.hid hgn
            clear htk hlk hgn heq hk32 hKD ho hP1000 hwi hpo
            by_cases hq0 : dd % 3 = 0
            · as_aux_lemma =>
                go_upto_region 11 with fail
                refine wp_region_lit ?_
                refine @wpL_build0 _ _ _ _ _ _ _ ?hw5020 23 rfl _ (build_zeroHash _) ?_
                case hw5020 => kernel_rfl
                simp only [Act.put, List.setIfInBounds_toArray, List.set_cons_zero, List.set_cons_succ]
                refine @wpL_alloc _ _ _ _ _ _ _ _ ?hw5021 23 rfl _ (alloc_hash _) ?_
                case hw5021 => kernel_rfl
                simp only [Act.put, List.setIfInBounds_toArray, List.set_cons_zero, List.set_cons_succ]
                refine @BigFrame.wpList_want _ _ _ _ _ _ _ ?hw5022 ?_
                case hw5022 => kernel_rfl
                intro K hK
                go_simp
                refine hK _ _ ?_
                clear hK K
                refine wpList_store_row rfl 23 _ _ rfl (wr.heap.size) zeros32 rfl rfl 23 zeros32 (heap_new _ _) (HZI.out) (rfl) (zeros32_all) ?_
                simp only [Act.put]
                rw [World.setRow_alloc_new]
                have KR1 : Hid (Kept wr.heap.size wr.heap.size wr (wr.alloc (.cells zeros32 23))) := Lib.hid ((Kept.refl _ _ _).alloc (Nat.le_refl _) _)
                have Z1 := Lib.hid (heap_new wr (.cells zeros32 23))
                generalize wr.alloc (.cells zeros32 23) = x1 at KR1 Z1 ⊢
                obtain ⟨kb, hkb⟩ : ∃ kb, kb = wr.heap.size := ⟨_, rfl⟩
                rw [← hkb] at Z1 ⊢
                have HKE := Lib.hid hkb
                clear hkb
                go_upto_region 12 with fail
                refine wp_region_lit ?_
                refine @wpList_load_known _ _ _ _ _ _ _ ?hw5024 32 (.tmp 9) rfl (mb) (0) rfl (.agg TS) (run_loadVar_row _ mb 32 32 TS (0, 0) _ (HM.out _ KR1.out) Tryd.underlying32 rfl (HMI.out)) ?_
                case hw5024 => kernel_rfl
                simp only [Act.put, List.setIfInBounds_toArray, List.set_cons_zero, List.set_cons_succ]
                refine @BigFrame.wpList_want _ _ _ _ _ _ _ ?hw5025 ?_
                case hw5025 => kernel_rfl
                intro K hK
                go_simp
                refine hK _ _ ?_
                clear hK K
                refine @BigFrame.wpList_want _ _ _ _ _ _ _ ?hw5023 ?_
                case hw5023 => kernel_rfl
                intro K hK
                go_simp
                go_at_call 8
                refine (HWI.out _).mono ?_
                rintro e x2 ⟨rfl, k2⟩
                refine hK _ _ ?_
                clear hK K
                refine @BigFrame.wpList_want _ _ _ _ _ _ _ ?hw5026 ?_
                case hw5026 => kernel_rfl
                intro K hK
                go_simp
                refine hK _ _ ?_
                clear hK K
                have KR2 := Lib.hid (KR1.out.next1 k2)
                have Z2 := Lib.hid (((k2).block kb (lt_of_block Z1.out) (Nat.ne_of_lt (lt_of_block Z1.out))).trans Z1.out)
                clear k2
                have ZK2 := Lib.hid (show x2.heap[kb]? = some (.cells KD 23 (0, 0)) by rw [← HZK.out]; exact Z2.out)
                have hdo : x2.cell? ⟨cg, co + i * 2, none⟩ = some (.int .u8 dd) := (KR2.out.cell (p := ⟨cg, co + i * 2, none⟩) HCG.out (Nat.ne_of_lt HCG.out)).trans HDO.out
                go_upto_region 19 with fail
                refine wp_region_lit ?_
                refine @BigFrame.wpList_want _ _ _ _ _ _ _ ?hw5028 ?_
                case hw5028 => kernel_rfl
                intro K hK
                go_simp
                refine hK _ _ ?_
                clear hK K
                refine @BigFrame.wpList_want _ _ _ _ _ _ _ ?hw5029 ?_
                case hw5029 => kernel_rfl
                intro K hK
                go_simp
                refine hK _ _ ?_
                clear hK K
                refine @BigFrame.wpList_want _ _ _ _ _ _ _ ?hw5027 ?_
                case hw5027 => kernel_rfl
                intro K hK
                go_simp
                go_at_call 11
                refine (HLK.out _ _ (HPL.out.step KR2.out).row).mono ?_
                rintro e x3 ⟨rfl, k3⟩
                refine hK _ _ ?_
                clear hK K
                refine @BigFrame.wpList_want _ _ _ _ _ _ _ ?hw5030 ?_
                case hw5030 => kernel_rfl
                intro K hK
                go_simp
                refine hK _ _ ?_
                clear hK K
                refine @BigFrame.wpList_want _ _ _ _ _ _ _ ?hw5031 ?_
                case hw5031 => kernel_rfl
                intro K hK
                go_simp
                refine hK _ _ ?_
                clear hK K
                refine @BigFrame.wpList_want _ _ _ _ _ _ _ ?hw5032 ?_
                case hw5032 => kernel_rfl
                intro K hK
                go_simp
                refine hK _ _ ?_
                clear hK K
                have KR3 := Lib.hid (KR2.out.next1 k3)
                have Y3 := Lib.hid (((k3).block kb (lt_of_block ZK2.out) (Nat.ne_of_lt (lt_of_block ZK2.out))).trans ZK2.out)
                have PL3 := Lib.hid (HPL.out.step KR3.out)
                clear k3 hdo
                refine @wpL_alloc _ _ _ _ _ _ _ _ ?hw5033 23 rfl _ (alloc_hash _) ?_
                case hw5033 => kernel_rfl
                simp only [Act.put, List.setIfInBounds_toArray, List.set_cons_zero, List.set_cons_succ]
                refine wpList_store_row rfl 23 _ _ rfl (x3.heap.size) KD rfl rfl 23 zeros32 (heap_new _ _) (HQI.out) (zeros32_size.trans HQS.out.symm) (HQA.out) ?_
                simp only [Act.put]
                rw [World.setRow_alloc_new]
                have kk : Kept x3.heap.size x3.heap.size x3 (x3.alloc (.cells KD 23)) := (Kept.refl _ _ _).alloc (Nat.le_refl _) _
                have PL4 := Lib.hid (PL3.out.step kk)
                have Y4 := Lib.hid (((kk).block kb (lt_of_block Y3.out) (Nat.ne_of_lt (lt_of_block Y3.out))).trans Y3.out)
                have V4 := Lib.hid (heap_new x3 (.cells KD 23))
                clear kk
                generalize x3.alloc (.cells KD 23) = x4 at PL4 Y4 V4 ⊢
                obtain ⟨lb, hlb⟩ : ∃ lb, lb = x3.heap.size := ⟨_, rfl⟩
                rw [← hlb] at V4 ⊢
                clear hlb
                refine @BigFrame.wpList_want _ _ _ _ _ _ _ ?hw5034 ?_
                case hw5034 => kernel_rfl
                intro K hK
                go_simp
                refine hK _ _ ?_
                clear hK K
                have heq := HEQ.out
                have gd := macGuard25
                go_upto_region 20 with fail
                refine wp_region_lit ?_
                refine @BigFrame.wpList_want _ _ _ _ _ _ _ ?hw5035 ?_
                case hw5035 => kernel_rfl
                intro K hK
                go_simp
                refine hK _ _ ?_
                clear hK K
                refine @BigFrame.wpList_want _ _ _ _ _ _ _ ?hw5036 ?_
                case hw5036 => kernel_rfl
                intro K hK
                go_simp
                refine hK _ _ ?_
                clear hK K
                refine @BigFrame.wpList_want _ _ _ _ _ _ _ ?hw5037 ?_
                case hw5037 => kernel_rfl
                intro K hK
                go_simp
                refine hK _ _ ?_
                clear hK K
                refine @BigFrame.wpList_want _ _ _ _ _ _ _ ?hw5038 ?_
                case hw5038 => kernel_rfl
                intro K hK
                go_simp
                refine hK _ _ ?_
                clear hK K
                refine @wpList_load_known _ _ _ _ _ _ _ ?hw5039 23 (.tmp 14) rfl (lb) (0) rfl (.agg KD) (run_loadVar_row _ lb 23 23 KD (0, 0) _ (V4.out) Tryd.underlying23 rfl (HQI.out)) ?_
                case hw5039 => kernel_rfl
                simp only [Act.put, List.setIfInBounds_toArray, List.set_cons_zero, List.set_cons_succ]
                refine @wpList_load_known _ _ _ _ _ _ _ ?hw5040 23 (.tmp 13) rfl (kb) (0) rfl (.agg KD) (run_loadVar_row _ kb 23 23 KD (0, 0) _ (Y4.out) Tryd.underlying23 rfl (HQI.out)) ?_
                case hw5040 => kernel_rfl
                simp only [Act.put, List.setIfInBounds_toArray, List.set_cons_zero, List.set_cons_succ]
                refine @BigFrame.wpList_want _ _ _ _ _ _ _ ?hw5041 ?_
                case hw5041 => kernel_rfl
                intro K hK
                go_simp
                refine hK _ _ ?_
                clear hK K
                refine @BigFrame.wpList_want _ _ _ _ _ _ _ ?hw5042 ?_
                case hw5042 => kernel_rfl
                intro K hK
                go_simp
                refine hK _ _ ?_
                clear hK K
                clear heq gd
                have HSM := Lib.hid (same_calls l HLL.out n HN32.out (.slice Ta P.length Tc) P H32.out (by have := HPI.out; have := HLT.out; have := HL24.out; omega) rb sl x4 PL4.out.row PL4.out.own.gones PL4.out.tab HIN.out (Pp.low_len32 n HN32.out P (by have := HPI.out; have := HLT.out; have := HL24.out; omega) l))
                have HM9 := Lib.hid PL4.out.m
                rw [← HTS.out] at HSM HM9
                go_upto_region 31 with fail
                refine wp_region_lit ?_
                refine @BigFrame.wpList_want _ _ _ _ _ _ _ ?hw5044 ?_
                case hw5044 => kernel_rfl
                intro K hK
                go_simp
                refine hK _ _ ?_
                clear hK K
                refine @wpList_load_known _ _ _ _ _ _ _ ?hw5045 32 (.tmp 9) rfl (mb) (0) rfl (.agg TS) (run_loadVar_row _ mb 32 32 TS (0, 0) _ (HM9.out) Tryd.underlying32 rfl (HMI.out)) ?_
                case hw5045 => kernel_rfl
                simp only [Act.put, List.setIfInBounds_toArray, List.set_cons_zero, List.set_cons_succ]
                refine @BigFrame.wpList_want _ _ _ _ _ _ _ ?hw5043 ?_
                case hw5043 => kernel_rfl
                intro K hK
                go_simp
                go_at_call 14
                refine (HSM.out).mono ?_
                rintro e xz ⟨rfl, kz⟩
                refine hK _ _ ?_
                clear hK K
                refine @BigFrame.wpList_want _ _ _ _ _ _ _ ?hw5046 ?_
                case hw5046 => kernel_rfl
                intro K hK
                go_simp
                refine hK _ _ ?_
                clear hK K
                have PLZ := Lib.hid (PL4.out.step kz)
                clear kz
                go_wp2
                go_roundw
                case rel => exact ⟨i + 1, by simp, Lib.hid HLT.out, P, Lib.hid (by have := HPI.out; omega), Lib.hid H32.out, (.slice Ta P.length Tc), sl, PLZ⟩
                case measure => have := HLT.out; simp [RowKit.intOf]; omega
            · by_cases hq1 : dd % 3 = 1
              · as_aux_lemma =>
                clear hq0
                go_upto_region 11 with fail
                refine wp_region_lit ?_
                refine @wpL_build0 _ _ _ _ _ _ _ ?hw5047 23 rfl _ (build_zeroHash _) ?_
                case hw5047 => kernel_rfl
                simp only [Act.put, List.setIfInBounds_toArray, List.set_cons_zero, List.set_cons_succ]
                refine @wpL_alloc _ _ _ _ _ _ _ _ ?hw5048 23 rfl _ (alloc_hash _) ?_
                case hw5048 => kernel_rfl
                simp only [Act.put, List.setIfInBounds_toArray, List.set_cons_zero, List.set_cons_succ]
                refine @BigFrame.wpList_want _ _ _ _ _ _ _ ?hw5049 ?_
                case hw5049 => kernel_rfl
                intro K hK
                go_simp
                refine hK _ _ ?_
                clear hK K
                refine wpList_store_row rfl 23 _ _ rfl (wr.heap.size) zeros32 rfl rfl 23 zeros32 (heap_new _ _) (HZI.out) (rfl) (zeros32_all) ?_
                simp only [Act.put]
                rw [World.setRow_alloc_new]
                have KR1 : Hid (Kept wr.heap.size wr.heap.size wr (wr.alloc (.cells zeros32 23))) := Lib.hid ((Kept.refl _ _ _).alloc (Nat.le_refl _) _)
                have Z1 := Lib.hid (heap_new wr (.cells zeros32 23))
                generalize wr.alloc (.cells zeros32 23) = x1 at KR1 Z1 ⊢
                obtain ⟨kb, hkb⟩ : ∃ kb, kb = wr.heap.size := ⟨_, rfl⟩
                rw [← hkb] at Z1 ⊢
                have HKE := Lib.hid hkb
                clear hkb
                go_upto_region 12 with fail
                refine wp_region_lit ?_
                refine @wpList_load_known _ _ _ _ _ _ _ ?hw5051 32 (.tmp 9) rfl (mb) (0) rfl (.agg TS) (run_loadVar_row _ mb 32 32 TS (0, 0) _ (HM.out _ KR1.out) Tryd.underlying32 rfl (HMI.out)) ?_
                case hw5051 => kernel_rfl
                simp only [Act.put, List.setIfInBounds_toArray, List.set_cons_zero, List.set_cons_succ]
                refine @BigFrame.wpList_want _ _ _ _ _ _ _ ?hw5052 ?_
                case hw5052 => kernel_rfl
                intro K hK
                go_simp
                refine hK _ _ ?_
                clear hK K
                refine @BigFrame.wpList_want _ _ _ _ _ _ _ ?hw5050 ?_
                case hw5050 => kernel_rfl
                intro K hK
                go_simp
                go_at_call 8
                refine (HWI.out _).mono ?_
                rintro e x2 ⟨rfl, k2⟩
                refine hK _ _ ?_
                clear hK K
                refine @BigFrame.wpList_want _ _ _ _ _ _ _ ?hw5053 ?_
                case hw5053 => kernel_rfl
                intro K hK
                go_simp
                refine hK _ _ ?_
                clear hK K
                have KR2 := Lib.hid (KR1.out.next1 k2)
                have Z2 := Lib.hid (((k2).block kb (lt_of_block Z1.out) (Nat.ne_of_lt (lt_of_block Z1.out))).trans Z1.out)
                clear k2
                have ZK2 := Lib.hid (show x2.heap[kb]? = some (.cells KD 23 (0, 0)) by rw [← HZK.out]; exact Z2.out)
                have hdo : x2.cell? ⟨cg, co + i * 2, none⟩ = some (.int .u8 dd) := (KR2.out.cell (p := ⟨cg, co + i * 2, none⟩) HCG.out (Nat.ne_of_lt HCG.out)).trans HDO.out
                go_upto_region 23 with fail
                refine wp_region_lit ?_
                refine @BigFrame.wpList_want _ _ _ _ _ _ _ ?hw5055 ?_
                case hw5055 => kernel_rfl
                intro K hK
                go_simp
                refine hK _ _ ?_
                clear hK K
                refine @BigFrame.wpList_want _ _ _ _ _ _ _ ?hw5056 ?_
                case hw5056 => kernel_rfl
                intro K hK
                go_simp
                refine hK _ _ ?_
                clear hK K
                refine @BigFrame.wpList_want _ _ _ _ _ _ _ ?hw5054 ?_
                case hw5054 => kernel_rfl
                intro K hK
                go_simp
                go_at_call 12
                refine (HTK.out _ _ (HPL.out.step KR2.out).row).mono ?_
                rintro e x3 ⟨rfl, sl2, hr2, k3, hn2⟩
                refine hK _ _ ?_
                clear hK K
                refine @BigFrame.wpList_want _ _ _ _ _ _ _ ?hw5057 ?_
                case hw5057 => kernel_rfl
                intro K hK
                go_simp
                refine hK _ _ ?_
                clear hK K
                refine @BigFrame.wpList_want _ _ _ _ _ _ _ ?hw5058 ?_
                case hw5058 => kernel_rfl
                intro K hK
                go_simp
                refine hK _ _ ?_
                clear hK K
                refine @BigFrame.wpList_want _ _ _ _ _ _ _ ?hw5059 ?_
                case hw5059 => kernel_rfl
                intro K hK
                go_simp
                refine hK _ _ ?_
                clear hK K
                have PL3 := Lib.hid ((HPL.out.step KR2.out).take hr2 k3 hn2 HNE.out)
                have Y3 := Lib.hid ((k3.block kb (lt_of_block ZK2.out) (by have := HKE.out; have := HPL.out.lt; have := lt_of_block HPL.out.m; omega)).trans ZK2.out)
                clear k3 hn2 hr2 hdo
                refine @wpL_alloc _ _ _ _ _ _ _ _ ?hw5060 23 rfl _ (alloc_hash _) ?_
                case hw5060 => kernel_rfl
                simp only [Act.put, List.setIfInBounds_toArray, List.set_cons_zero, List.set_cons_succ]
                refine wpList_store_row rfl 23 _ _ rfl (x3.heap.size) KD rfl rfl 23 zeros32 (heap_new _ _) (HQI.out) (zeros32_size.trans HQS.out.symm) (HQA.out) ?_
                simp only [Act.put]
                rw [World.setRow_alloc_new]
                have kk : Kept x3.heap.size x3.heap.size x3 (x3.alloc (.cells KD 23)) := (Kept.refl _ _ _).alloc (Nat.le_refl _) _
                have PL4 := Lib.hid (PL3.out.step kk)
                have Y4 := Lib.hid (((kk).block kb (lt_of_block Y3.out) (Nat.ne_of_lt (lt_of_block Y3.out))).trans Y3.out)
                have V4 := Lib.hid (heap_new x3 (.cells KD 23))
                clear kk
                generalize x3.alloc (.cells KD 23) = x4 at PL4 Y4 V4 ⊢
                obtain ⟨lb, hlb⟩ : ∃ lb, lb = x3.heap.size := ⟨_, rfl⟩
                rw [← hlb] at V4 ⊢
                clear hlb
                refine @BigFrame.wpList_want _ _ _ _ _ _ _ ?hw5061 ?_
                case hw5061 => kernel_rfl
                intro K hK
                go_simp
                refine hK _ _ ?_
                clear hK K
                have heq := HEQ.out
                have gd := macGuard25
                go_upto_region 24 with fail
                refine wp_region_lit ?_
                refine @BigFrame.wpList_want _ _ _ _ _ _ _ ?hw5062 ?_
                case hw5062 => kernel_rfl
                intro K hK
                go_simp
                refine hK _ _ ?_
                clear hK K
                refine @BigFrame.wpList_want _ _ _ _ _ _ _ ?hw5063 ?_
                case hw5063 => kernel_rfl
                intro K hK
                go_simp
                refine hK _ _ ?_
                clear hK K
                refine @BigFrame.wpList_want _ _ _ _ _ _ _ ?hw5064 ?_
                case hw5064 => kernel_rfl
                intro K hK
                go_simp
                refine hK _ _ ?_
                clear hK K
                refine @BigFrame.wpList_want _ _ _ _ _ _ _ ?hw5065 ?_
                case hw5065 => kernel_rfl
                intro K hK
                go_simp
                refine hK _ _ ?_
                clear hK K
                refine @wpList_load_known _ _ _ _ _ _ _ ?hw5066 23 (.tmp 16) rfl (lb) (0) rfl (.agg KD) (run_loadVar_row _ lb 23 23 KD (0, 0) _ (V4.out) Tryd.underlying23 rfl (HQI.out)) ?_
                case hw5066 => kernel_rfl
                simp only [Act.put, List.setIfInBounds_toArray, List.set_cons_zero, List.set_cons_succ]
                refine @wpList_load_known _ _ _ _ _ _ _ ?hw5067 23 (.tmp 13) rfl (kb) (0) rfl (.agg KD) (run_loadVar_row _ kb 23 23 KD (0, 0) _ (Y4.out) Tryd.underlying23 rfl (HQI.out)) ?_
                case hw5067 => kernel_rfl
                simp only [Act.put, List.setIfInBounds_toArray, List.set_cons_zero, List.set_cons_succ]
                refine @BigFrame.wpList_want _ _ _ _ _ _ _ ?hw5068 ?_
                case hw5068 => kernel_rfl
                intro K hK
                go_simp
                refine hK _ _ ?_
                clear hK K
                refine @BigFrame.wpList_want _ _ _ _ _ _ _ ?hw5069 ?_
                case hw5069 => kernel_rfl
                intro K hK
                go_simp
                refine hK _ _ ?_
                clear hK K
                clear heq gd
                have HSM := Lib.hid (same_calls l HLL.out n HN32.out (.slice Ta P.length Tc) P H32.out (by have := HPI.out; have := HLT.out; have := HL24.out; omega) rb sl2 x4 PL4.out.row PL4.out.own.gones PL4.out.tab HIN.out (Pp.low_len32 n HN32.out P (by have := HPI.out; have := HLT.out; have := HL24.out; omega) l))
                have HM9 := Lib.hid PL4.out.m
                rw [← HTS.out] at HSM HM9
                go_upto_region 31 with fail
                refine wp_region_lit ?_
                refine @BigFrame.wpList_want _ _ _ _ _ _ _ ?hw5071 ?_
                case hw5071 => kernel_rfl
                intro K hK
                go_simp
                refine hK _ _ ?_
                clear hK K
                refine @wpList_load_known _ _ _ _ _ _ _ ?hw5072 32 (.tmp 9) rfl (mb) (0) rfl (.agg TS) (run_loadVar_row _ mb 32 32 TS (0, 0) _ (HM9.out) Tryd.underlying32 rfl (HMI.out)) ?_
                case hw5072 => kernel_rfl
                simp only [Act.put, List.setIfInBounds_toArray, List.set_cons_zero, List.set_cons_succ]
                refine @BigFrame.wpList_want _ _ _ _ _ _ _ ?hw5070 ?_
                case hw5070 => kernel_rfl
                intro K hK
                go_simp
                go_at_call 14
                refine (HSM.out).mono ?_
                rintro e xz ⟨rfl, kz⟩
                refine hK _ _ ?_
                clear hK K
                refine @BigFrame.wpList_want _ _ _ _ _ _ _ ?hw5073 ?_
                case hw5073 => kernel_rfl
                intro K hK
                go_simp
                refine hK _ _ ?_
                clear hK K
                have PLZ := Lib.hid (PL4.out.step kz)
                clear kz
                go_wp2
                go_roundw
                case rel => exact ⟨i + 1, by simp, Lib.hid HLT.out, P, Lib.hid (by have := HPI.out; omega), Lib.hid H32.out, (.slice Ta P.length Tc), sl2, PLZ⟩
                case measure => have := HLT.out; simp [RowKit.intOf]; omega
              · have hq2 : dd % 3 = 2 := by omega
                as_aux_lemma =>
                clear hq0 hq1
                go_upto_region 11 with fail
                refine wp_region_lit ?_
                refine @wpL_build0 _ _ _ _ _ _ _ ?hw5074 23 rfl _ (build_zeroHash _) ?_
                case hw5074 => kernel_rfl
                simp only [Act.put, List.setIfInBounds_toArray, List.set_cons_zero, List.set_cons_succ]
                refine @wpL_alloc _ _ _ _ _ _ _ _ ?hw5075 23 rfl _ (alloc_hash _) ?_
                case hw5075 => kernel_rfl
                simp only [Act.put, List.setIfInBounds_toArray, List.set_cons_zero, List.set_cons_succ]
                refine @BigFrame.wpList_want _ _ _ _ _ _ _ ?hw5076 ?_
                case hw5076 => kernel_rfl
                intro K hK
                go_simp
                refine hK _ _ ?_
                clear hK K
                refine wpList_store_row rfl 23 _ _ rfl (wr.heap.size) zeros32 rfl rfl 23 zeros32 (heap_new _ _) (HZI.out) (rfl) (zeros32_all) ?_
                simp only [Act.put]
                rw [World.setRow_alloc_new]
                have KR1 : Hid (Kept wr.heap.size wr.heap.size wr (wr.alloc (.cells zeros32 23))) := Lib.hid ((Kept.refl _ _ _).alloc (Nat.le_refl _) _)
                have Z1 := Lib.hid (heap_new wr (.cells zeros32 23))
                generalize wr.alloc (.cells zeros32 23) = x1 at KR1 Z1 ⊢
                obtain ⟨kb, hkb⟩ : ∃ kb, kb = wr.heap.size := ⟨_, rfl⟩
                rw [← hkb] at Z1 ⊢
                have HKE := Lib.hid hkb
                clear hkb
                go_upto_region 12 with fail
                refine wp_region_lit ?_
                refine @wpList_load_known _ _ _ _ _ _ _ ?hw5078 32 (.tmp 9) rfl (mb) (0) rfl (.agg TS) (run_loadVar_row _ mb 32 32 TS (0, 0) _ (HM.out _ KR1.out) Tryd.underlying32 rfl (HMI.out)) ?_
                case hw5078 => kernel_rfl
                simp only [Act.put, List.setIfInBounds_toArray, List.set_cons_zero, List.set_cons_succ]
                refine @BigFrame.wpList_want _ _ _ _ _ _ _ ?hw5079 ?_
                case hw5079 => kernel_rfl
                intro K hK
                go_simp
                refine hK _ _ ?_
                clear hK K
                refine @BigFrame.wpList_want _ _ _ _ _ _ _ ?hw5077 ?_
                case hw5077 => kernel_rfl
                intro K hK
                go_simp
                go_at_call 8
                refine (HWI.out _).mono ?_
                rintro e x2 ⟨rfl, k2⟩
                refine hK _ _ ?_
                clear hK K
                refine @BigFrame.wpList_want _ _ _ _ _ _ _ ?hw5080 ?_
                case hw5080 => kernel_rfl
                intro K hK
                go_simp
                refine hK _ _ ?_
                clear hK K
                have KR2 := Lib.hid (KR1.out.next1 k2)
                have Z2 := Lib.hid (((k2).block kb (lt_of_block Z1.out) (Nat.ne_of_lt (lt_of_block Z1.out))).trans Z1.out)
                clear k2
                have ZK2 := Lib.hid (show x2.heap[kb]? = some (.cells KD 23 (0, 0)) by rw [← HZK.out]; exact Z2.out)
                have hdo : x2.cell? ⟨cg, co + i * 2, none⟩ = some (.int .u8 dd) := (KR2.out.cell (p := ⟨cg, co + i * 2, none⟩) HCG.out (Nat.ne_of_lt HCG.out)).trans HDO.out
                go_upto_region 29 with fail
                refine wp_region_lit ?_
                refine @BigFrame.wpList_want _ _ _ _ _ _ _ ?hw5082 ?_
                case hw5082 => kernel_rfl
                intro K hK
                go_simp
                refine hK _ _ ?_
                clear hK K
                refine @BigFrame.wpList_want _ _ _ _ _ _ _ ?hw5083 ?_
                case hw5083 => kernel_rfl
                intro K hK
                go_simp
                refine hK _ _ ?_
                clear hK K
                refine @BigFrame.wpList_want _ _ _ _ _ _ _ ?hw5081 ?_
                case hw5081 => kernel_rfl
                intro K hK
                go_simp
                go_at_call 13
                refine (HGN.out _ _ (HPL.out.step KR2.out).row).mono ?_
                rintro e x3 ⟨rfl, k3⟩
                refine hK _ _ ?_
                clear hK K
                refine @BigFrame.wpList_want _ _ _ _ _ _ _ ?hw5084 ?_
                case hw5084 => kernel_rfl
                intro K hK
                go_simp
                refine hK _ _ ?_
                clear hK K
                refine @BigFrame.wpList_want _ _ _ _ _ _ _ ?hw5085 ?_
                case hw5085 => kernel_rfl
                intro K hK
                go_simp
                refine hK _ _ ?_
                clear hK K
                refine @BigFrame.wpList_want _ _ _ _ _ _ _ ?hw5086 ?_
                case hw5086 => kernel_rfl
                intro K hK
                go_simp
                refine hK _ _ ?_
                clear hK K
                have PL3 := Lib.hid (HPL.out.step (KR2.out.next1 k3))
                clear k3 hdo
                have HSM := Lib.hid (same_calls l HLL.out n HN32.out (.slice Ta P.length Tc) P H32.out (by have := HPI.out; have := HLT.out; have := HL24.out; omega) rb sl x3 PL3.out.row PL3.out.own.gones PL3.out.tab HIN.out (Pp.low_len32 n HN32.out P (by have := HPI.out; have := HLT.out; have := HL24.out; omega) l))
                have HM9 := Lib.hid PL3.out.m
                rw [← HTS.out] at HSM HM9
                go_upto_region 31 with fail
                refine wp_region_lit ?_
                refine @BigFrame.wpList_want _ _ _ _ _ _ _ ?hw5088 ?_
                case hw5088 => kernel_rfl
                intro K hK
                go_simp
                refine hK _ _ ?_
                clear hK K
                refine @wpList_load_known _ _ _ _ _ _ _ ?hw5089 32 (.tmp 9) rfl (mb) (0) rfl (.agg TS) (run_loadVar_row _ mb 32 32 TS (0, 0) _ (HM9.out) Tryd.underlying32 rfl (HMI.out)) ?_
                case hw5089 => kernel_rfl
                simp only [Act.put, List.setIfInBounds_toArray, List.set_cons_zero, List.set_cons_succ]
                refine @BigFrame.wpList_want _ _ _ _ _ _ _ ?hw5087 ?_
                case hw5087 => kernel_rfl
                intro K hK
                go_simp
                go_at_call 14
                refine (HSM.out).mono ?_
                rintro e xz ⟨rfl, kz⟩
                refine hK _ _ ?_
                clear hK K
                refine @BigFrame.wpList_want _ _ _ _ _ _ _ ?hw5090 ?_
                case hw5090 => kernel_rfl
                intro K hK
                go_simp
                refine hK _ _ ?_
                clear hK K
                have PLZ := Lib.hid (PL3.out.step kz)
                clear kz
                go_wp2
                go_roundw
                case rel => exact ⟨i + 1, by simp, Lib.hid HLT.out, P, Lib.hid (by have := HPI.out; omega), Lib.hid H32.out, (.slice Ta P.length Tc), sl, PLZ⟩
                case measure => have := HLT.out; simp [RowKit.intOf]; omega
          · obtain ⟨p, rfl⟩ : ∃ p : Nat, pl = (p : Int) := ⟨pl.toNat, by omega⟩
            have hp : p < 2 ^ n := by omega
            have hp32 : p < 4294967296 := Nat.lt_of_lt_of_le hp (Nat.pow_le_pow_right (by decide) HN32.out)
            have HWI : Hid (∀ w, Calls Tryd.prog 8 #[.agg TS, .int .i64 (p : Int)] w fun e w' => e = .returned (.bool true) ∧ Kept w.heap.size w.heap.size w w') := Lib.hid (fun w => by
              have h := hwi w
              rwa [show (decide (0 ≤ (p : Int)) && decide ((p : Int) < ((2 ^ n : Nat) : Int))) = true by rw [Bool.and_eq_true_iff, decide_eq_true_iff, decide_eq_true_iff]; omega] at h)
            have hrg := fun w h => refgone_calls l HLL.out n (.slice Ta P.length Tc) P hP1000 p hp32 w h
            rw [← HTS.out] at hrg
            by_cases hmem : p ∈ P
            · have ho : Pp.Out n P l (p : Int) Pp.z32 10 P := .gone p rfl hp hmem
              have HNE := Lib.hid (fun (h : Pp.low n P n ⟨0, 0, l⟩ ≠ []) => h)
              rw [decide_eq_true hmem] at hrg
              have HRG := Lib.hid hrg
              clear hrg hp hp32 hmem
              have hk32 : Pp.z32.length = 32 := by rfl
              have htk := fun sl w h => play_take n HN32.out P hP1000 l HLL.out rb (p : Int) ho sl w h
              have hlk := fun sl w h => play_look n HN32.out P hP1000 l HLL.out rb (p : Int) ho sl w h
              have hgn := fun sl w h => play_gone n HN32.out P hP1000 l HLL.out rb (p : Int) ho sl w h
              obtain ⟨KD, hKD⟩ : ∃ KD, KD = (bcells Pp.z32).toArray := ⟨_, rfl⟩
              have heq : ∀ w, (Op.equalIn 10000 23 (.agg KD) (.agg KD)).run Tryd.prog w = .ok true w := fun w => by
                rw [hKD]
                have := hash_equalIn w Pp.z32 Pp.z32 hk32 hk32
                rwa [beq_self_eq_true] at this
              have HEQ := Lib.hid heq
              have HQS := Lib.hid (show KD.size = 32 by rw [hKD]; exact keyD_size hk32)
              have HQA := Lib.hid (show KD.all (·.oneCell') = true by rw [hKD]; exact bcells_all _)
              have HQI := Lib.hid (show (Tryd.prog.info? 23).map (·.size) = some KD.size by rw [hKD]; exact keyInfo hk32)
              have HZK := Lib.hid (show zeros32 = KD by rw [hKD, ← zeros_bcells])
              rw [← hKD] at htk hlk
              have HTK := Lib.hid htk
              have HLK := Lib.hid hlk
              have HGN := Lib.hid hgn
              clear htk hlk hgn heq hk32 hKD ho hP1000 hwi
              by_cases hq0 : dd % 3 = 0
              · as_aux_lemma =>
                  go_upto_region 11 with fail
                  refine wp_region_lit ?_
                  refine @wpL_build0 _ _ _ _ _ _ _ ?hw5091 23 rfl _ (build_zeroHash _) ?_
                  case hw5091 => kernel_rfl
                  simp only [Act.put, List.setIfInBounds_toArray, List.set_cons_zero, List.set_cons_succ]
                  refine @wpL_alloc _ _ _ _ _ _ _ _ ?hw5092 23 rfl _ (alloc_hash _) ?_
                  case hw5092 => kernel_rfl
                  simp only [Act.put, List.setIfInBounds_toArray, List.set_cons_zero, List.set_cons_succ]
                  refine @BigFrame.wpList_want _ _ _ _ _ _ _ ?hw5093 ?_
                  case hw5093 => kernel_rfl
                  intro K hK
                  go_simp
                  refine hK _ _ ?_
                  clear hK K
                  refine wpList_store_row rfl 23 _ _ rfl (wr.heap.size) zeros32 rfl rfl 23 zeros32 (heap_new _ _) (HZI.out) (rfl) (zeros32_all) ?_
                  simp only [Act.put]
                  rw [World.setRow_alloc_new]
                  have KR1 : Hid (Kept wr.heap.size wr.heap.size wr (wr.alloc (.cells zeros32 23))) := Lib.hid ((Kept.refl _ _ _).alloc (Nat.le_refl _) _)
                  have Z1 := Lib.hid (heap_new wr (.cells zeros32 23))
                  generalize wr.alloc (.cells zeros32 23) = x1 at KR1 Z1 ⊢
                  obtain ⟨kb, hkb⟩ : ∃ kb, kb = wr.heap.size := ⟨_, rfl⟩
                  rw [← hkb] at Z1 ⊢
                  have HKE := Lib.hid hkb
                  clear hkb
                  go_upto_region 12 with fail
                  refine wp_region_lit ?_
                  refine @wpList_load_known _ _ _ _ _ _ _ ?hw5095 32 (.tmp 9) rfl (mb) (0) rfl (.agg TS) (run_loadVar_row _ mb 32 32 TS (0, 0) _ (HM.out _ KR1.out) Tryd.underlying32 rfl (HMI.out)) ?_
                  case hw5095 => kernel_rfl
                  simp only [Act.put, List.setIfInBounds_toArray, List.set_cons_zero, List.set_cons_succ]
                  refine @BigFrame.wpList_want _ _ _ _ _ _ _ ?hw5096 ?_
                  case hw5096 => kernel_rfl
                  intro K hK
                  go_simp
                  refine hK _ _ ?_
                  clear hK K
                  refine @BigFrame.wpList_want _ _ _ _ _ _ _ ?hw5094 ?_
                  case hw5094 => kernel_rfl
                  intro K hK
                  go_simp
                  go_at_call 8
                  refine (HWI.out _).mono ?_
                  rintro e x2 ⟨rfl, k2⟩
                  refine hK _ _ ?_
                  clear hK K
                  refine @BigFrame.wpList_want _ _ _ _ _ _ _ ?hw5097 ?_
                  case hw5097 => kernel_rfl
                  intro K hK
                  go_simp
                  refine hK _ _ ?_
                  clear hK K
                  have KR2 := Lib.hid (KR1.out.next1 k2)
                  have Z2 := Lib.hid (((k2).block kb (lt_of_block Z1.out) (Nat.ne_of_lt (lt_of_block Z1.out))).trans Z1.out)
                  clear k2
                  go_upto_region 14 with fail
                  refine wp_region_lit ?_
                  refine @wpList_load_known _ _ _ _ _ _ _ ?hw5099 32 (.tmp 9) rfl (mb) (0) rfl (.agg TS) (run_loadVar_row _ mb 32 32 TS (0, 0) _ (HM.out _ KR2.out) Tryd.underlying32 rfl (HMI.out)) ?_
                  case hw5099 => kernel_rfl
                  simp only [Act.put, List.setIfInBounds_toArray, List.set_cons_zero, List.set_cons_succ]
                  refine @BigFrame.wpList_want _ _ _ _ _ _ _ ?hw5100 ?_
                  case hw5100 => kernel_rfl
                  intro K hK
                  go_simp
                  refine hK _ _ ?_
                  clear hK K
                  refine @BigFrame.wpList_want _ _ _ _ _ _ _ ?hw5098 ?_
                  case hw5098 => kernel_rfl
                  intro K hK
                  go_simp
                  go_at_call 9
                  refine (HRG.out _ (HPL.out.step KR2.out).own.gones).mono ?_
                  rintro e x3 ⟨rfl, k3⟩
                  refine hK _ _ ?_
                  clear hK K
                  have KR3 := Lib.hid (KR2.out.next1 k3)
                  have Z3 := Lib.hid (((k3).block kb (lt_of_block Z2.out) (Nat.ne_of_lt (lt_of_block Z2.out))).trans Z2.out)
                  clear k3
                  have ZK3 := Lib.hid (show x3.heap[kb]? = some (.cells KD 23 (0, 0)) by rw [← HZK.out]; exact Z3.out)
                  have hdo : x3.cell? ⟨cg, co + i * 2, none⟩ = some (.int .u8 dd) := (KR3.out.cell (p := ⟨cg, co + i * 2, none⟩) HCG.out (Nat.ne_of_lt HCG.out)).trans HDO.out
                  go_upto_region 19 with fail
                  refine wp_region_lit ?_
                  refine @BigFrame.wpList_want _ _ _ _ _ _ _ ?hw5102 ?_
                  case hw5102 => kernel_rfl
                  intro K hK
                  go_simp
                  refine hK _ _ ?_
                  clear hK K
                  refine @BigFrame.wpList_want _ _ _ _ _ _ _ ?hw5103 ?_
                  case hw5103 => kernel_rfl
                  intro K hK
                  go_simp
                  refine hK _ _ ?_
                  clear hK K
                  refine @BigFrame.wpList_want _ _ _ _ _ _ _ ?hw5101 ?_
                  case hw5101 => kernel_rfl
                  intro K hK
                  go_simp
                  go_at_call 11
                  refine (HLK.out _ _ (HPL.out.step KR3.out).row).mono ?_
                  rintro e x4 ⟨rfl, k4⟩
                  refine hK _ _ ?_
                  clear hK K
                  refine @BigFrame.wpList_want _ _ _ _ _ _ _ ?hw5104 ?_
                  case hw5104 => kernel_rfl
                  intro K hK
                  go_simp
                  refine hK _ _ ?_
                  clear hK K
                  refine @BigFrame.wpList_want _ _ _ _ _ _ _ ?hw5105 ?_
                  case hw5105 => kernel_rfl
                  intro K hK
                  go_simp
                  refine hK _ _ ?_
                  clear hK K
                  refine @BigFrame.wpList_want _ _ _ _ _ _ _ ?hw5106 ?_
                  case hw5106 => kernel_rfl
                  intro K hK
                  go_simp
                  refine hK _ _ ?_
                  clear hK K
                  have KR4 := Lib.hid (KR3.out.next1 k4)
                  have Y4 := Lib.hid (((k4).block kb (lt_of_block ZK3.out) (Nat.ne_of_lt (lt_of_block ZK3.out))).trans ZK3.out)
                  have PL4 := Lib.hid (HPL.out.step KR4.out)
                  clear k4 hdo
                  refine @wpL_alloc _ _ _ _ _ _ _ _ ?hw5107 23 rfl _ (alloc_hash _) ?_
                  case hw5107 => kernel_rfl
                  simp only [Act.put, List.setIfInBounds_toArray, List.set_cons_zero, List.set_cons_succ]
                  refine wpList_store_row rfl 23 _ _ rfl (x4.heap.size) KD rfl rfl 23 zeros32 (heap_new _ _) (HQI.out) (zeros32_size.trans HQS.out.symm) (HQA.out) ?_
                  simp only [Act.put]
                  rw [World.setRow_alloc_new]
                  have kk : Kept x4.heap.size x4.heap.size x4 (x4.alloc (.cells KD 23)) := (Kept.refl _ _ _).alloc (Nat.le_refl _) _
                  have PL5 := Lib.hid (PL4.out.step kk)
                  have Y5 := Lib.hid (((kk).block kb (lt_of_block Y4.out) (Nat.ne_of_lt (lt_of_block Y4.out))).trans Y4.out)
                  have V5 := Lib.hid (heap_new x4 (.cells KD 23))
                  clear kk
                  generalize x4.alloc (.cells KD 23) = x5 at PL5 Y5 V5 ⊢
                  obtain ⟨lb, hlb⟩ : ∃ lb, lb = x4.heap.size := ⟨_, rfl⟩
                  rw [← hlb] at V5 ⊢
                  clear hlb
                  refine @BigFrame.wpList_want _ _ _ _ _ _ _ ?hw5108 ?_
                  case hw5108 => kernel_rfl
                  intro K hK
                  go_simp
                  refine hK _ _ ?_
                  clear hK K
                  have heq := HEQ.out
                  have gd := macGuard25
                  go_upto_region 20 with fail
                  refine wp_region_lit ?_
                  refine @BigFrame.wpList_want _ _ _ _ _ _ _ ?hw5109 ?_
                  case hw5109 => kernel_rfl
                  intro K hK
                  go_simp
                  refine hK _ _ ?_
                  clear hK K
                  refine @BigFrame.wpList_want _ _ _ _ _ _ _ ?hw5110 ?_
                  case hw5110 => kernel_rfl
                  intro K hK
                  go_simp
                  refine hK _ _ ?_
                  clear hK K
                  refine @BigFrame.wpList_want _ _ _ _ _ _ _ ?hw5111 ?_
                  case hw5111 => kernel_rfl
                  intro K hK
                  go_simp
                  refine hK _ _ ?_
                  clear hK K
                  refine @BigFrame.wpList_want _ _ _ _ _ _ _ ?hw5112 ?_
                  case hw5112 => kernel_rfl
                  intro K hK
                  go_simp
                  refine hK _ _ ?_
                  clear hK K
                  refine @wpList_load_known _ _ _ _ _ _ _ ?hw5113 23 (.tmp 14) rfl (lb) (0) rfl (.agg KD) (run_loadVar_row _ lb 23 23 KD (0, 0) _ (V5.out) Tryd.underlying23 rfl (HQI.out)) ?_
                  case hw5113 => kernel_rfl
                  simp only [Act.put, List.setIfInBounds_toArray, List.set_cons_zero, List.set_cons_succ]
                  refine @wpList_load_known _ _ _ _ _ _ _ ?hw5114 23 (.tmp 13) rfl (kb) (0) rfl (.agg KD) (run_loadVar_row _ kb 23 23 KD (0, 0) _ (Y5.out) Tryd.underlying23 rfl (HQI.out)) ?_
                  case hw5114 => kernel_rfl
                  simp only [Act.put, List.setIfInBounds_toArray, List.set_cons_zero, List.set_cons_succ]
                  refine @BigFrame.wpList_want _ _ _ _ _ _ _ ?hw5115 ?_
                  case hw5115 => kernel_rfl
                  intro K hK
                  go_simp
                  refine hK _ _ ?_
                  clear hK K
                  refine @BigFrame.wpList_want _ _ _ _ _ _ _ ?hw5116 ?_
                  case hw5116 => kernel_rfl
                  intro K hK
                  go_simp
                  refine hK _ _ ?_
                  clear hK K
                  clear heq gd
                  have HSM := Lib.hid (same_calls l HLL.out n HN32.out (.slice Ta P.length Tc) P H32.out (by have := HPI.out; have := HLT.out; have := HL24.out; omega) rb sl x5 PL5.out.row PL5.out.own.gones PL5.out.tab HIN.out (Pp.low_len32 n HN32.out P (by have := HPI.out; have := HLT.out; have := HL24.out; omega) l))
                  have HM9 := Lib.hid PL5.out.m
                  rw [← HTS.out] at HSM HM9
                  go_upto_region 31 with fail
                  refine wp_region_lit ?_
                  refine @BigFrame.wpList_want _ _ _ _ _ _ _ ?hw5118 ?_
                  case hw5118 => kernel_rfl
                  intro K hK
                  go_simp
                  refine hK _ _ ?_
                  clear hK K
                  refine @wpList_load_known _ _ _ _ _ _ _ ?hw5119 32 (.tmp 9) rfl (mb) (0) rfl (.agg TS) (run_loadVar_row _ mb 32 32 TS (0, 0) _ (HM9.out) Tryd.underlying32 rfl (HMI.out)) ?_
                  case hw5119 => kernel_rfl
                  simp only [Act.put, List.setIfInBounds_toArray, List.set_cons_zero, List.set_cons_succ]
                  refine @BigFrame.wpList_want _ _ _ _ _ _ _ ?hw5117 ?_
                  case hw5117 => kernel_rfl
                  intro K hK
                  go_simp
                  go_at_call 14
                  refine (HSM.out).mono ?_
                  rintro e xz ⟨rfl, kz⟩
                  refine hK _ _ ?_
                  clear hK K
                  refine @BigFrame.wpList_want _ _ _ _ _ _ _ ?hw5120 ?_
                  case hw5120 => kernel_rfl
                  intro K hK
                  go_simp
                  refine hK _ _ ?_
                  clear hK K
                  have PLZ := Lib.hid (PL5.out.step kz)
                  clear kz
                  go_wp2
                  go_roundw
                  case rel => exact ⟨i + 1, by simp, Lib.hid HLT.out, P, Lib.hid (by have := HPI.out; omega), Lib.hid H32.out, (.slice Ta P.length Tc), sl, PLZ⟩
                  case measure => have := HLT.out; simp [RowKit.intOf]; omega
              · by_cases hq1 : dd % 3 = 1
                · as_aux_lemma =>
                  clear hq0
                  go_upto_region 11 with fail
                  refine wp_region_lit ?_
                  refine @wpL_build0 _ _ _ _ _ _ _ ?hw5121 23 rfl _ (build_zeroHash _) ?_
                  case hw5121 => kernel_rfl
                  simp only [Act.put, List.setIfInBounds_toArray, List.set_cons_zero, List.set_cons_succ]
                  refine @wpL_alloc _ _ _ _ _ _ _ _ ?hw5122 23 rfl _ (alloc_hash _) ?_
                  case hw5122 => kernel_rfl
                  simp only [Act.put, List.setIfInBounds_toArray, List.set_cons_zero, List.set_cons_succ]
                  refine @BigFrame.wpList_want _ _ _ _ _ _ _ ?hw5123 ?_
                  case hw5123 => kernel_rfl
                  intro K hK
                  go_simp
                  refine hK _ _ ?_
                  clear hK K
                  refine wpList_store_row rfl 23 _ _ rfl (wr.heap.size) zeros32 rfl rfl 23 zeros32 (heap_new _ _) (HZI.out) (rfl) (zeros32_all) ?_
                  simp only [Act.put]
                  rw [World.setRow_alloc_new]
                  have KR1 : Hid (Kept wr.heap.size wr.heap.size wr (wr.alloc (.cells zeros32 23))) := Lib.hid ((Kept.refl _ _ _).alloc (Nat.le_refl _) _)
                  have Z1 := Lib.hid (heap_new wr (.cells zeros32 23))
                  generalize wr.alloc (.cells zeros32 23) = x1 at KR1 Z1 ⊢
                  obtain ⟨kb, hkb⟩ : ∃ kb, kb = wr.heap.size := ⟨_, rfl⟩
                  rw [← hkb] at Z1 ⊢
                  have HKE := Lib.hid hkb
                  clear hkb
                  go_upto_region 12 with fail
                  refine wp_region_lit ?_
                  refine @wpList_load_known _ _ _ _ _ _ _ ?hw5125 32 (.tmp 9) rfl (mb) (0) rfl (.agg TS) (run_loadVar_row _ mb 32 32 TS (0, 0) _ (HM.out _ KR1.out) Tryd.underlying32 rfl (HMI.out)) ?_
                  case hw5125 => kernel_rfl
                  simp only [Act.put, List.setIfInBounds_toArray, List.set_cons_zero, List.set_cons_succ]
                  refine @BigFrame.wpList_want _ _ _ _ _ _ _ ?hw5126 ?_
                  case hw5126 => kernel_rfl
                  intro K hK
                  go_simp
                  refine hK _ _ ?_
                  clear hK K
                  refine @BigFrame.wpList_want _ _ _ _ _ _ _ ?hw5124 ?_
                  case hw5124 => kernel_rfl
                  intro K hK
                  go_simp
                  go_at_call 8
                  refine (HWI.out _).mono ?_
                  rintro e x2 ⟨rfl, k2⟩
                  refine hK _ _ ?_
                  clear hK K
                  refine @BigFrame.wpList_want _ _ _ _ _ _ _ ?hw5127 ?_
                  case hw5127 => kernel_rfl
                  intro K hK
                  go_simp
                  refine hK _ _ ?_
                  clear hK K
                  have KR2 := Lib.hid (KR1.out.next1 k2)
                  have Z2 := Lib.hid (((k2).block kb (lt_of_block Z1.out) (Nat.ne_of_lt (lt_of_block Z1.out))).trans Z1.out)
                  clear k2
                  go_upto_region 14 with fail
                  refine wp_region_lit ?_
                  refine @wpList_load_known _ _ _ _ _ _ _ ?hw5129 32 (.tmp 9) rfl (mb) (0) rfl (.agg TS) (run_loadVar_row _ mb 32 32 TS (0, 0) _ (HM.out _ KR2.out) Tryd.underlying32 rfl (HMI.out)) ?_
                  case hw5129 => kernel_rfl
                  simp only [Act.put, List.setIfInBounds_toArray, List.set_cons_zero, List.set_cons_succ]
                  refine @BigFrame.wpList_want _ _ _ _ _ _ _ ?hw5130 ?_
                  case hw5130 => kernel_rfl
                  intro K hK
                  go_simp
                  refine hK _ _ ?_
                  clear hK K
                  refine @BigFrame.wpList_want _ _ _ _ _ _ _ ?hw5128 ?_
                  case hw5128 => kernel_rfl
                  intro K hK
                  go_simp
                  go_at_call 9
                  refine (HRG.out _ (HPL.out.step KR2.out).own.gones).mono ?_
                  rintro e x3 ⟨rfl, k3⟩
                  refine hK _ _ ?_
                  clear hK K
                  have KR3 := Lib.hid (KR2.out.next1 k3)
                  have Z3 := Lib.hid (((k3).block kb (lt_of_block Z2.out) (Nat.ne_of_lt (lt_of_block Z2.out))).trans Z2.out)
                  clear k3
                  have ZK3 := Lib.hid (show x3.heap[kb]? = some (.cells KD 23 (0, 0)) by rw [← HZK.out]; exact Z3.out)
                  have hdo : x3.cell? ⟨cg, co + i * 2, none⟩ = some (.int .u8 dd) := (KR3.out.cell (p := ⟨cg, co + i * 2, none⟩) HCG.out (Nat.ne_of_lt HCG.out)).trans HDO.out
                  go_upto_region 23 with fail
                  refine wp_region_lit ?_
                  refine @BigFrame.wpList_want _ _ _ _ _ _ _ ?hw5132 ?_
                  case hw5132 => kernel_rfl
                  intro K hK
                  go_simp
                  refine hK _ _ ?_
                  clear hK K
                  refine @BigFrame.wpList_want _ _ _ _ _ _ _ ?hw5133 ?_
                  case hw5133 => kernel_rfl
                  intro K hK
                  go_simp
                  refine hK _ _ ?_
                  clear hK K
                  refine @BigFrame.wpList_want _ _ _ _ _ _ _ ?hw5131 ?_
                  case hw5131 => kernel_rfl
                  intro K hK
                  go_simp
                  go_at_call 12
                  refine (HTK.out _ _ (HPL.out.step KR3.out).row).mono ?_
                  rintro e x4 ⟨rfl, sl2, hr2, k4, hn2⟩
                  refine hK _ _ ?_
                  clear hK K
                  refine @BigFrame.wpList_want _ _ _ _ _ _ _ ?hw5134 ?_
                  case hw5134 => kernel_rfl
                  intro K hK
                  go_simp
                  refine hK _ _ ?_
                  clear hK K
                  refine @BigFrame.wpList_want _ _ _ _ _ _ _ ?hw5135 ?_
                  case hw5135 => kernel_rfl
                  intro K hK
                  go_simp
                  refine hK _ _ ?_
                  clear hK K
                  refine @BigFrame.wpList_want _ _ _ _ _ _ _ ?hw5136 ?_
                  case hw5136 => kernel_rfl
                  intro K hK
                  go_simp
                  refine hK _ _ ?_
                  clear hK K
                  have PL4 := Lib.hid ((HPL.out.step KR3.out).take hr2 k4 hn2 HNE.out)
                  have Y4 := Lib.hid ((k4.block kb (lt_of_block ZK3.out) (by have := HKE.out; have := HPL.out.lt; have := lt_of_block HPL.out.m; omega)).trans ZK3.out)
                  clear k4 hn2 hr2 hdo
                  refine @wpL_alloc _ _ _ _ _ _ _ _ ?hw5137 23 rfl _ (alloc_hash _) ?_
                  case hw5137 => kernel_rfl
                  simp only [Act.put, List.setIfInBounds_toArray, List.set_cons_zero, List.set_cons_succ]
                  refine wpList_store_row rfl 23 _ _ rfl (x4.heap.size) KD rfl rfl 23 zeros32 (heap_new _ _) (HQI.out) (zeros32_size.trans HQS.out.symm) (HQA.out) ?_
                  simp only [Act.put]
                  rw [World.setRow_alloc_new]
                  have kk : Kept x4.heap.size x4.heap.size x4 (x4.alloc (.cells KD 23)) := (Kept.refl _ _ _).alloc (Nat.le_refl _) _
                  have PL5 := Lib.hid (PL4.out.step kk)
                  have Y5 := Lib.hid (((kk).block kb (lt_of_block Y4.out) (Nat.ne_of_lt (lt_of_block Y4.out))).trans Y4.out)
                  have V5 := Lib.hid (heap_new x4 (.cells KD 23))
                  clear kk
                  generalize x4.alloc (.cells KD 23) = x5 at PL5 Y5 V5 ⊢
                  obtain ⟨lb, hlb⟩ : ∃ lb, lb = x4.heap.size := ⟨_, rfl⟩
                  rw [← hlb] at V5 ⊢
                  clear hlb
                  refine @BigFrame.wpList_want _ _ _ _ _ _ _ ?hw5138 ?_
                  case hw5138 => kernel_rfl
                  intro K hK
                  go_simp
                  refine hK _ _ ?_
                  clear hK K
                  have heq := HEQ.out
                  have gd := macGuard25
                  go_upto_region 24 with fail
                  refine wp_region_lit ?_
                  refine @BigFrame.wpList_want _ _ _ _ _ _ _ ?hw5139 ?_
                  case hw5139 => kernel_rfl
                  intro K hK
                  go_simp
                  refine hK _ _ ?_
                  clear hK K
                  refine @BigFrame.wpList_want _ _ _ _ _ _ _ ?hw5140 ?_
                  case hw5140 => kernel_rfl
                  intro K hK
                  go_simp
                  refine hK _ _ ?_
                  clear hK K
                  refine @BigFrame.wpList_want _ _ _ _ _ _ _ ?hw5141 ?_
                  case hw5141 => kernel_rfl
                  intro K hK
                  go_simp
                  refine hK _ _ ?_
                  clear hK K
                  refine @BigFrame.wpList_want _ _ _ _ _ _ _ ?hw5142 ?_
                  case hw5142 => kernel_rfl
                  intro K hK
                  go_simp
                  refine hK _ _ ?_
                  clear hK K
                  refine @wpList_load_known _ _ _ _ _ _ _ ?hw5143 23 (.tmp 16) rfl (lb) (0) rfl (.agg KD) (run_loadVar_row _ lb 23 23 KD (0, 0) _ (V5.out) Tryd.underlying23 rfl (HQI.out)) ?_
                  case hw5143 => kernel_rfl
                  simp only [Act.put, List.setIfInBounds_toArray, List.set_cons_zero, List.set_cons_succ]
                  refine @wpList_load_known _ _ _ _ _ _ _ ?hw5144 23 (.tmp 13) rfl (kb) (0) rfl (.agg KD) (run_loadVar_row _ kb 23 23 KD (0, 0) _ (Y5.out) Tryd.underlying23 rfl (HQI.out)) ?_
                  case hw5144 => kernel_rfl
                  simp only [Act.put, List.setIfInBounds_toArray, List.set_cons_zero, List.set_cons_succ]
                  refine @BigFrame.wpList_want _ _ _ _ _ _ _ ?hw5145 ?_
                  case hw5145 => kernel_rfl
                  intro K hK
                  go_simp
                  refine hK _ _ ?_
                  clear hK K
                  refine @BigFrame.wpList_want _ _ _ _ _ _ _ ?hw5146 ?_
                  case hw5146 => kernel_rfl
                  intro K hK
                  go_simp
                  refine hK _ _ ?_
                  clear hK K
                  clear heq gd
                  have HSM := Lib.hid (same_calls l HLL.out n HN32.out (.slice Ta P.length Tc) P H32.out (by have := HPI.out; have := HLT.out; have := HL24.out; omega) rb sl2 x5 PL5.out.row PL5.out.own.gones PL5.out.tab HIN.out (Pp.low_len32 n HN32.out P (by have := HPI.out; have := HLT.out; have := HL24.out; omega) l))
                  have HM9 := Lib.hid PL5.out.m
                  rw [← HTS.out] at HSM HM9
                  go_upto_region 31 with fail
                  refine wp_region_lit ?_
                  refine @BigFrame.wpList_want _ _ _ _ _ _ _ ?hw5148 ?_
                  case hw5148 => kernel_rfl
                  intro K hK
                  go_simp
                  refine hK _ _ ?_
                  clear hK K
                  refine @wpList_load_known _ _ _ _ _ _ _ ?hw5149 32 (.tmp 9) rfl (mb) (0) rfl (.agg TS) (run_loadVar_row _ mb 32 32 TS (0, 0) _ (HM9.out) Tryd.underlying32 rfl (HMI.out)) ?_
                  case hw5149 => kernel_rfl
                  simp only [Act.put, List.setIfInBounds_toArray, List.set_cons_zero, List.set_cons_succ]
                  refine @BigFrame.wpList_want _ _ _ _ _ _ _ ?hw5147 ?_
                  case hw5147 => kernel_rfl
                  intro K hK
                  go_simp
                  go_at_call 14
                  refine (HSM.out).mono ?_
                  rintro e xz ⟨rfl, kz⟩
                  refine hK _ _ ?_
                  clear hK K
                  refine @BigFrame.wpList_want _ _ _ _ _ _ _ ?hw5150 ?_
                  case hw5150 => kernel_rfl
                  intro K hK
                  go_simp
                  refine hK _ _ ?_
                  clear hK K
                  have PLZ := Lib.hid (PL5.out.step kz)
                  clear kz
                  go_wp2
                  go_roundw
                  case rel => exact ⟨i + 1, by simp, Lib.hid HLT.out, P, Lib.hid (by have := HPI.out; omega), Lib.hid H32.out, (.slice Ta P.length Tc), sl2, PLZ⟩
                  case measure => have := HLT.out; simp [RowKit.intOf]; omega
                · have hq2 : dd % 3 = 2 := by omega
                  as_aux_lemma =>
                  clear hq0 hq1
                  go_upto_region 11 with fail
                  refine wp_region_lit ?_
                  refine @wpL_build0 _ _ _ _ _ _ _ ?hw5151 23 rfl _ (build_zeroHash _) ?_
                  case hw5151 => kernel_rfl
                  simp only [Act.put, List.setIfInBounds_toArray, List.set_cons_zero, List.set_cons_succ]
                  refine @wpL_alloc _ _ _ _ _ _ _ _ ?hw5152 23 rfl _ (alloc_hash _) ?_
                  case hw5152 => kernel_rfl
                  simp only [Act.put, List.setIfInBounds_toArray, List.set_cons_zero, List.set_cons_succ]
                  refine @BigFrame.wpList_want _ _ _ _ _ _ _ ?hw5153 ?_
                  case hw5153 => kernel_rfl
                  intro K hK
                  go_simp
                  refine hK _ _ ?_
                  clear hK K
                  refine wpList_store_row rfl 23 _ _ rfl (wr.heap.size) zeros32 rfl rfl 23 zeros32 (heap_new _ _) (HZI.out) (rfl) (zeros32_all) ?_
                  simp only [Act.put]
                  rw [World.setRow_alloc_new]
                  have KR1 : Hid (Kept wr.heap.size wr.heap.size wr (wr.alloc (.cells zeros32 23))) := Lib.hid ((Kept.refl _ _ _).alloc (Nat.le_refl _) _)
                  have Z1 := Lib.hid (heap_new wr (.cells zeros32 23))
                  generalize wr.alloc (.cells zeros32 23) = x1 at KR1 Z1 ⊢
                  obtain ⟨kb, hkb⟩ : ∃ kb, kb = wr.heap.size := ⟨_, rfl⟩
                  rw [← hkb] at Z1 ⊢
                  have HKE := Lib.hid hkb
                  clear hkb
                  go_upto_region 12 with fail
                  refine wp_region_lit ?_
                  refine @wpList_load_known _ _ _ _ _ _ _ ?hw5155 32 (.tmp 9) rfl (mb) (0) rfl (.agg TS) (run_loadVar_row _ mb 32 32 TS (0, 0) _ (HM.out _ KR1.out) Tryd.underlying32 rfl (HMI.out)) ?_
                  case hw5155 => kernel_rfl
                  simp only [Act.put, List.setIfInBounds_toArray, List.set_cons_zero, List.set_cons_succ]
                  refine @BigFrame.wpList_want _ _ _ _ _ _ _ ?hw5156 ?_
                  case hw5156 => kernel_rfl
                  intro K hK
                  go_simp
                  refine hK _ _ ?_
                  clear hK K
                  refine @BigFrame.wpList_want _ _ _ _ _ _ _ ?hw5154 ?_
                  case hw5154 => kernel_rfl
                  intro K hK
                  go_simp
                  go_at_call 8
                  refine (HWI.out _).mono ?_
                  rintro e x2 ⟨rfl, k2⟩
                  refine hK _ _ ?_
                  clear hK K
                  refine @BigFrame.wpList_want _ _ _ _ _ _ _ ?hw5157 ?_
                  case hw5157 => kernel_rfl
                  intro K hK
                  go_simp
                  refine hK _ _ ?_
                  clear hK K
                  have KR2 := Lib.hid (KR1.out.next1 k2)
                  have Z2 := Lib.hid (((k2).block kb (lt_of_block Z1.out) (Nat.ne_of_lt (lt_of_block Z1.out))).trans Z1.out)
                  clear k2
                  go_upto_region 14 with fail
                  refine wp_region_lit ?_
                  refine @wpList_load_known _ _ _ _ _ _ _ ?hw5159 32 (.tmp 9) rfl (mb) (0) rfl (.agg TS) (run_loadVar_row _ mb 32 32 TS (0, 0) _ (HM.out _ KR2.out) Tryd.underlying32 rfl (HMI.out)) ?_
                  case hw5159 => kernel_rfl
                  simp only [Act.put, List.setIfInBounds_toArray, List.set_cons_zero, List.set_cons_succ]
                  refine @BigFrame.wpList_want _ _ _ _ _ _ _ ?hw5160 ?_
                  case hw5160 => kernel_rfl
                  intro K hK
                  go_simp
                  refine hK _ _ ?_
                  clear hK K
                  refine @BigFrame.wpList_want _ _ _ _ _ _ _ ?hw5158 ?_
                  case hw5158 => kernel_rfl
                  intro K hK
                  go_simp
                  go_at_call 9
                  refine (HRG.out _ (HPL.out.step KR2.out).own.gones).mono ?_
                  rintro e x3 ⟨rfl, k3⟩
                  refine hK _ _ ?_
                  clear hK K
                  have KR3 := Lib.hid (KR2.out.next1 k3)
                  have Z3 := Lib.hid (((k3).block kb (lt_of_block Z2.out) (Nat.ne_of_lt (lt_of_block Z2.out))).trans Z2.out)
                  clear k3
                  have ZK3 := Lib.hid (show x3.heap[kb]? = some (.cells KD 23 (0, 0)) by rw [← HZK.out]; exact Z3.out)
                  have hdo : x3.cell? ⟨cg, co + i * 2, none⟩ = some (.int .u8 dd) := (KR3.out.cell (p := ⟨cg, co + i * 2, none⟩) HCG.out (Nat.ne_of_lt HCG.out)).trans HDO.out
                  go_upto_region 29 with fail
                  refine wp_region_lit ?_
                  refine @BigFrame.wpList_want _ _ _ _ _ _ _ ?hw5162 ?_
                  case hw5162 => kernel_rfl
                  intro K hK
                  go_simp
                  refine hK _ _ ?_
                  clear hK K
                  refine @BigFrame.wpList_want _ _ _ _ _ _ _ ?hw5163 ?_
                  case hw5163 => kernel_rfl
                  intro K hK
                  go_simp
                  refine hK _ _ ?_
                  clear hK K
                  refine @BigFrame.wpList_want _ _ _ _ _ _ _ ?hw5161 ?_
                  case hw5161 => kernel_rfl
                  intro K hK
                  go_simp
                  go_at_call 13
                  refine (HGN.out _ _ (HPL.out.step KR3.out).row).mono ?_
                  rintro e x4 ⟨rfl, k4⟩
                  refine hK _ _ ?_
                  clear hK K
                  refine @BigFrame.wpList_want _ _ _ _ _ _ _ ?hw5164 ?_
                  case hw5164 => kernel_rfl
                  intro K hK
                  go_simp
                  refine hK _ _ ?_
                  clear hK K
                  refine @BigFrame.wpList_want _ _ _ _ _ _ _ ?hw5165 ?_
                  case hw5165 => kernel_rfl
                  intro K hK
                  go_simp
                  refine hK _ _ ?_
                  clear hK K
                  refine @BigFrame.wpList_want _ _ _ _ _ _ _ ?hw5166 ?_
                  case hw5166 => kernel_rfl
                  intro K hK
                  go_simp
                  refine hK _ _ ?_
                  clear hK K
                  have PL4 := Lib.hid (HPL.out.step (KR3.out.next1 k4))
                  clear k4 hdo
                  have HSM := Lib.hid (same_calls l HLL.out n HN32.out (.slice Ta P.length Tc) P H32.out (by have := HPI.out; have := HLT.out; have := HL24.out; omega) rb sl x4 PL4.out.row PL4.out.own.gones PL4.out.tab HIN.out (Pp.low_len32 n HN32.out P (by have := HPI.out; have := HLT.out; have := HL24.out; omega) l))
                  have HM9 := Lib.hid PL4.out.m
                  rw [← HTS.out] at HSM HM9
                  go_upto_region 31 with fail
                  refine wp_region_lit ?_
                  refine @BigFrame.wpList_want _ _ _ _ _ _ _ ?hw5168 ?_
                  case hw5168 => kernel_rfl
                  intro K hK
                  go_simp
                  refine hK _ _ ?_
                  clear hK K
                  refine @wpList_load_known _ _ _ _ _ _ _ ?hw5169 32 (.tmp 9) rfl (mb) (0) rfl (.agg TS) (run_loadVar_row _ mb 32 32 TS (0, 0) _ (HM9.out) Tryd.underlying32 rfl (HMI.out)) ?_
                  case hw5169 => kernel_rfl
                  simp only [Act.put, List.setIfInBounds_toArray, List.set_cons_zero, List.set_cons_succ]
                  refine @BigFrame.wpList_want _ _ _ _ _ _ _ ?hw5167 ?_
                  case hw5167 => kernel_rfl
                  intro K hK
                  go_simp
                  go_at_call 14
                  refine (HSM.out).mono ?_
                  rintro e xz ⟨rfl, kz⟩
                  refine hK _ _ ?_
                  clear hK K
                  refine @BigFrame.wpList_want _ _ _ _ _ _ _ ?hw5170 ?_
                  case hw5170 => kernel_rfl
                  intro K hK
                  go_simp
                  refine hK _ _ ?_
                  clear hK K
                  have PLZ := Lib.hid (PL4.out.step kz)
                  clear kz
                  go_wp2
                  go_roundw
                  case rel => exact ⟨i + 1, by simp, Lib.hid HLT.out, P, Lib.hid (by have := HPI.out; omega), Lib.hid H32.out, (.slice Ta P.length Tc), sl, PLZ⟩
                  case measure => have := HLT.out; simp [RowKit.intOf]; omega
            · have ho : Pp.Out n P l (p : Int) (Pp.key (Pp.path p n l)) 0 (P ++ [p]) := .fresh p rfl hp hmem
              have HNE := Lib.hid (fun (_ : Pp.low n (P ++ [p]) n ⟨0, 0, l⟩ ≠ []) => show Pp.low n P n ⟨0, 0, l⟩ ≠ [] by
                obtain ⟨A, x, B, e, _⟩ := Pp.low_took n P p hmem n ⟨0, 0, l⟩ (Nat.zero_add _) ⟨by simp [Pp.start], by simpa [Pp.stop] using hp⟩
                rw [e]; simp)
              rw [decide_eq_false hmem] at hrg
              have HRG := Lib.hid hrg
              have hkey := fun w => refkey_calls l HLL.out n HN32.out (.slice Ta P.length Tc) p hp32 w
              rw [← HTS.out] at hkey
              have H32b := Lib.hid (show ∀ t ∈ P ++ [p], t < 4294967296 from fun t ht => by
                rcases List.mem_append.1 ht with h | h
                · exact H32.out t h
                · rw [List.mem_singleton.1 h]; exact hp32)
              have HIN2 := Lib.hid (Pp.low_in n HN32.out (P ++ [p]) l HLL.out)
              clear hrg hp hp32 hmem
              have hk32 : (Pp.key (Pp.path p n l)).length = 32 := sum_length _
              have htk := fun sl w h => play_take n HN32.out P hP1000 l HLL.out rb (p : Int) ho sl w h
              have hlk := fun sl w h => play_look n HN32.out P hP1000 l HLL.out rb (p : Int) ho sl w h
              have hgn := fun sl w h => play_gone n HN32.out P hP1000 l HLL.out rb (p : Int) ho sl w h
              obtain ⟨KD, hKD⟩ : ∃ KD, KD = (bcells (Pp.key (Pp.path p n l))).toArray := ⟨_, rfl⟩
              have heq : ∀ w, (Op.equalIn 10000 23 (.agg KD) (.agg KD)).run Tryd.prog w = .ok true w := fun w => by
                rw [hKD]
                have := hash_equalIn w (Pp.key (Pp.path p n l)) (Pp.key (Pp.path p n l)) hk32 hk32
                rwa [beq_self_eq_true] at this
              have HEQ := Lib.hid heq
              have HQS := Lib.hid (show KD.size = 32 by rw [hKD]; exact keyD_size hk32)
              have HQA := Lib.hid (show KD.all (·.oneCell') = true by rw [hKD]; exact bcells_all _)
              have HQI := Lib.hid (show (Tryd.prog.info? 23).map (·.size) = some KD.size by rw [hKD]; exact keyInfo hk32)
              rw [← hKD] at htk hlk hkey
              have HKEY := Lib.hid hkey
              clear hkey
              have HTK := Lib.hid htk
              have HLK := Lib.hid hlk
              have HGN := Lib.hid hgn
              clear htk hlk hgn heq hk32 hKD ho hP1000 hwi
              by_cases hq0 : dd % 3 = 0
              · as_aux_lemma =>
                  go_upto_region 11 with fail
                  refine wp_region_lit ?_
                  refine @wpL_build0 _ _ _ _ _ _ _ ?hw5171 23 rfl _ (build_zeroHash _) ?_
                  case hw5171 => kernel_rfl
                  simp only [Act.put, List.setIfInBounds_toArray, List.set_cons_zero, List.set_cons_succ]
                  refine @wpL_alloc _ _ _ _ _ _ _ _ ?hw5172 23 rfl _ (alloc_hash _) ?_
                  case hw5172 => kernel_rfl
                  simp only [Act.put, List.setIfInBounds_toArray, List.set_cons_zero, List.set_cons_succ]
                  refine @BigFrame.wpList_want _ _ _ _ _ _ _ ?hw5173 ?_
                  case hw5173 => kernel_rfl
                  intro K hK
                  go_simp
                  refine hK _ _ ?_
                  clear hK K
                  refine wpList_store_row rfl 23 _ _ rfl (wr.heap.size) zeros32 rfl rfl 23 zeros32 (heap_new _ _) (HZI.out) (rfl) (zeros32_all) ?_
                  simp only [Act.put]
                  rw [World.setRow_alloc_new]
                  have KR1 : Hid (Kept wr.heap.size wr.heap.size wr (wr.alloc (.cells zeros32 23))) := Lib.hid ((Kept.refl _ _ _).alloc (Nat.le_refl _) _)
                  have Z1 := Lib.hid (heap_new wr (.cells zeros32 23))
                  generalize wr.alloc (.cells zeros32 23) = x1 at KR1 Z1 ⊢
                  obtain ⟨kb, hkb⟩ : ∃ kb, kb = wr.heap.size := ⟨_, rfl⟩
                  rw [← hkb] at Z1 ⊢
                  have HKE := Lib.hid hkb
                  clear hkb
                  go_upto_region 12 with fail
                  refine wp_region_lit ?_
                  refine @wpList_load_known _ _ _ _ _ _ _ ?hw5175 32 (.tmp 9) rfl (mb) (0) rfl (.agg TS) (run_loadVar_row _ mb 32 32 TS (0, 0) _ (HM.out _ KR1.out) Tryd.underlying32 rfl (HMI.out)) ?_
                  case hw5175 => kernel_rfl
                  simp only [Act.put, List.setIfInBounds_toArray, List.set_cons_zero, List.set_cons_succ]
                  refine @BigFrame.wpList_want _ _ _ _ _ _ _ ?hw5176 ?_
                  case hw5176 => kernel_rfl
                  intro K hK
                  go_simp
                  refine hK _ _ ?_
                  clear hK K
                  refine @BigFrame.wpList_want _ _ _ _ _ _ _ ?hw5174 ?_
                  case hw5174 => kernel_rfl
                  intro K hK
                  go_simp
                  go_at_call 8
                  refine (HWI.out _).mono ?_
                  rintro e x2 ⟨rfl, k2⟩
                  refine hK _ _ ?_
                  clear hK K
                  refine @BigFrame.wpList_want _ _ _ _ _ _ _ ?hw5177 ?_
                  case hw5177 => kernel_rfl
                  intro K hK
                  go_simp
                  refine hK _ _ ?_
                  clear hK K
                  have KR2 := Lib.hid (KR1.out.next1 k2)
                  have Z2 := Lib.hid (((k2).block kb (lt_of_block Z1.out) (Nat.ne_of_lt (lt_of_block Z1.out))).trans Z1.out)
                  clear k2
                  go_upto_region 14 with fail
                  refine wp_region_lit ?_
                  refine @wpList_load_known _ _ _ _ _ _ _ ?hw5179 32 (.tmp 9) rfl (mb) (0) rfl (.agg TS) (run_loadVar_row _ mb 32 32 TS (0, 0) _ (HM.out _ KR2.out) Tryd.underlying32 rfl (HMI.out)) ?_
                  case hw5179 => kernel_rfl
                  simp only [Act.put, List.setIfInBounds_toArray, List.set_cons_zero, List.set_cons_succ]
                  refine @BigFrame.wpList_want _ _ _ _ _ _ _ ?hw5180 ?_
                  case hw5180 => kernel_rfl
                  intro K hK
                  go_simp
                  refine hK _ _ ?_
                  clear hK K
                  refine @BigFrame.wpList_want _ _ _ _ _ _ _ ?hw5178 ?_
                  case hw5178 => kernel_rfl
                  intro K hK
                  go_simp
                  go_at_call 9
                  refine (HRG.out _ (HPL.out.step KR2.out).own.gones).mono ?_
                  rintro e x3 ⟨rfl, k3⟩
                  refine hK _ _ ?_
                  clear hK K
                  have KR3 := Lib.hid (KR2.out.next1 k3)
                  have Z3 := Lib.hid (((k3).block kb (lt_of_block Z2.out) (Nat.ne_of_lt (lt_of_block Z2.out))).trans Z2.out)
                  clear k3
                  go_upto_region 16 with fail
                  refine wp_region_lit ?_
                  refine @wpList_load_known _ _ _ _ _ _ _ ?hw5182 32 (.tmp 9) rfl (mb) (0) rfl (.agg TS) (run_loadVar_row _ mb 32 32 TS (0, 0) _ (HM.out _ KR3.out) Tryd.underlying32 rfl (HMI.out)) ?_
                  case hw5182 => kernel_rfl
                  simp only [Act.put, List.setIfInBounds_toArray, List.set_cons_zero, List.set_cons_succ]
                  refine @BigFrame.wpList_want _ _ _ _ _ _ _ ?hw5183 ?_
                  case hw5183 => kernel_rfl
                  intro K hK
                  go_simp
                  refine hK _ _ ?_
                  clear hK K
                  refine @BigFrame.wpList_want _ _ _ _ _ _ _ ?hw5181 ?_
                  case hw5181 => kernel_rfl
                  intro K hK
                  go_simp
                  go_at_call 10
                  refine (HKEY.out _).mono ?_
                  rintro e x4 ⟨rfl, k4⟩
                  refine hK _ _ ?_
                  clear hK K
                  have KR4 := Lib.hid (KR3.out.next1 k4)
                  have Z4 := Lib.hid (((k4).block kb (lt_of_block Z3.out) (Nat.ne_of_lt (lt_of_block Z3.out))).trans Z3.out)
                  clear k4
                  refine wpList_store_row rfl 23 _ _ rfl (kb) KD rfl rfl 23 zeros32 (Z4.out) (HQI.out) (zeros32_size.trans HQS.out.symm) (HQA.out) ?_
                  simp only [Act.put]
                  have Z5 := Lib.hid (setRow_heap x4 kb zeros32 KD _ _ Z4.out)
                  have KR5 : Hid (Kept wr.heap.size wr.heap.size wr (x4.setRow kb KD)) := Lib.hid (KR4.out.trans ⟨rfl, rfl, rfl, by simp [World.setRow], fun k hk _ => setRow_other x4 kb k KD (by have := HKE.out; omega)⟩)
                  generalize x4.setRow kb KD = x5 at Z5 KR5 ⊢
                  have hdo : x5.cell? ⟨cg, co + i * 2, none⟩ = some (.int .u8 dd) := (KR5.out.cell (p := ⟨cg, co + i * 2, none⟩) HCG.out (Nat.ne_of_lt HCG.out)).trans HDO.out
                  go_upto_region 19 with fail
                  refine wp_region_lit ?_
                  refine @BigFrame.wpList_want _ _ _ _ _ _ _ ?hw5185 ?_
                  case hw5185 => kernel_rfl
                  intro K hK
                  go_simp
                  refine hK _ _ ?_
                  clear hK K
                  refine @BigFrame.wpList_want _ _ _ _ _ _ _ ?hw5186 ?_
                  case hw5186 => kernel_rfl
                  intro K hK
                  go_simp
                  refine hK _ _ ?_
                  clear hK K
                  refine @BigFrame.wpList_want _ _ _ _ _ _ _ ?hw5184 ?_
                  case hw5184 => kernel_rfl
                  intro K hK
                  go_simp
                  go_at_call 11
                  refine (HLK.out _ _ (HPL.out.step KR5.out).row).mono ?_
                  rintro e x6 ⟨rfl, k6⟩
                  refine hK _ _ ?_
                  clear hK K
                  refine @BigFrame.wpList_want _ _ _ _ _ _ _ ?hw5187 ?_
                  case hw5187 => kernel_rfl
                  intro K hK
                  go_simp
                  refine hK _ _ ?_
                  clear hK K
                  refine @BigFrame.wpList_want _ _ _ _ _ _ _ ?hw5188 ?_
                  case hw5188 => kernel_rfl
                  intro K hK
                  go_simp
                  refine hK _ _ ?_
                  clear hK K
                  refine @BigFrame.wpList_want _ _ _ _ _ _ _ ?hw5189 ?_
                  case hw5189 => kernel_rfl
                  intro K hK
                  go_simp
                  refine hK _ _ ?_
                  clear hK K
                  have KR6 := Lib.hid (KR5.out.next1 k6)
                  have Y6 := Lib.hid (((k6).block kb (lt_of_block Z5.out) (Nat.ne_of_lt (lt_of_block Z5.out))).trans Z5.out)
                  have PL6 := Lib.hid (HPL.out.step KR6.out)
                  clear k6 hdo
                  refine @wpL_alloc _ _ _ _ _ _ _ _ ?hw5190 23 rfl _ (alloc_hash _) ?_
                  case hw5190 => kernel_rfl
                  simp only [Act.put, List.setIfInBounds_toArray, List.set_cons_zero, List.set_cons_succ]
                  refine wpList_store_row rfl 23 _ _ rfl (x6.heap.size) KD rfl rfl 23 zeros32 (heap_new _ _) (HQI.out) (zeros32_size.trans HQS.out.symm) (HQA.out) ?_
                  simp only [Act.put]
                  rw [World.setRow_alloc_new]
                  have kk : Kept x6.heap.size x6.heap.size x6 (x6.alloc (.cells KD 23)) := (Kept.refl _ _ _).alloc (Nat.le_refl _) _
                  have PL7 := Lib.hid (PL6.out.step kk)
                  have Y7 := Lib.hid (((kk).block kb (lt_of_block Y6.out) (Nat.ne_of_lt (lt_of_block Y6.out))).trans Y6.out)
                  have V7 := Lib.hid (heap_new x6 (.cells KD 23))
                  clear kk
                  generalize x6.alloc (.cells KD 23) = x7 at PL7 Y7 V7 ⊢
                  obtain ⟨lb, hlb⟩ : ∃ lb, lb = x6.heap.size := ⟨_, rfl⟩
                  rw [← hlb] at V7 ⊢
                  clear hlb
                  refine @BigFrame.wpList_want _ _ _ _ _ _ _ ?hw5191 ?_
                  case hw5191 => kernel_rfl
                  intro K hK
                  go_simp
                  refine hK _ _ ?_
                  clear hK K
                  have heq := HEQ.out
                  have gd := macGuard25
                  go_upto_region 20 with fail
                  refine wp_region_lit ?_
                  refine @BigFrame.wpList_want _ _ _ _ _ _ _ ?hw5192 ?_
                  case hw5192 => kernel_rfl
                  intro K hK
                  go_simp
                  refine hK _ _ ?_
                  clear hK K
                  refine @BigFrame.wpList_want _ _ _ _ _ _ _ ?hw5193 ?_
                  case hw5193 => kernel_rfl
                  intro K hK
                  go_simp
                  refine hK _ _ ?_
                  clear hK K
                  refine @BigFrame.wpList_want _ _ _ _ _ _ _ ?hw5194 ?_
                  case hw5194 => kernel_rfl
                  intro K hK
                  go_simp
                  refine hK _ _ ?_
                  clear hK K
                  refine @BigFrame.wpList_want _ _ _ _ _ _ _ ?hw5195 ?_
                  case hw5195 => kernel_rfl
                  intro K hK
                  go_simp
                  refine hK _ _ ?_
                  clear hK K
                  refine @wpList_load_known _ _ _ _ _ _ _ ?hw5196 23 (.tmp 14) rfl (lb) (0) rfl (.agg KD) (run_loadVar_row _ lb 23 23 KD (0, 0) _ (V7.out) Tryd.underlying23 rfl (HQI.out)) ?_
                  case hw5196 => kernel_rfl
                  simp only [Act.put, List.setIfInBounds_toArray, List.set_cons_zero, List.set_cons_succ]
                  refine @wpList_load_known _ _ _ _ _ _ _ ?hw5197 23 (.tmp 13) rfl (kb) (0) rfl (.agg KD) (run_loadVar_row _ kb 23 23 KD (0, 0) _ (Y7.out) Tryd.underlying23 rfl (HQI.out)) ?_
                  case hw5197 => kernel_rfl
                  simp only [Act.put, List.setIfInBounds_toArray, List.set_cons_zero, List.set_cons_succ]
                  refine @BigFrame.wpList_want _ _ _ _ _ _ _ ?hw5198 ?_
                  case hw5198 => kernel_rfl
                  intro K hK
                  go_simp
                  refine hK _ _ ?_
                  clear hK K
                  refine @BigFrame.wpList_want _ _ _ _ _ _ _ ?hw5199 ?_
                  case hw5199 => kernel_rfl
                  intro K hK
                  go_simp
                  refine hK _ _ ?_
                  clear hK K
                  clear heq gd
                  have HSM := Lib.hid (same_calls l HLL.out n HN32.out (.slice Ta P.length Tc) P H32.out (by have := HPI.out; have := HLT.out; have := HL24.out; omega) rb sl x7 PL7.out.row PL7.out.own.gones PL7.out.tab HIN.out (Pp.low_len32 n HN32.out P (by have := HPI.out; have := HLT.out; have := HL24.out; omega) l))
                  have HM9 := Lib.hid PL7.out.m
                  rw [← HTS.out] at HSM HM9
                  go_upto_region 31 with fail
                  refine wp_region_lit ?_
                  refine @BigFrame.wpList_want _ _ _ _ _ _ _ ?hw5201 ?_
                  case hw5201 => kernel_rfl
                  intro K hK
                  go_simp
                  refine hK _ _ ?_
                  clear hK K
                  refine @wpList_load_known _ _ _ _ _ _ _ ?hw5202 32 (.tmp 9) rfl (mb) (0) rfl (.agg TS) (run_loadVar_row _ mb 32 32 TS (0, 0) _ (HM9.out) Tryd.underlying32 rfl (HMI.out)) ?_
                  case hw5202 => kernel_rfl
                  simp only [Act.put, List.setIfInBounds_toArray, List.set_cons_zero, List.set_cons_succ]
                  refine @BigFrame.wpList_want _ _ _ _ _ _ _ ?hw5200 ?_
                  case hw5200 => kernel_rfl
                  intro K hK
                  go_simp
                  go_at_call 14
                  refine (HSM.out).mono ?_
                  rintro e xz ⟨rfl, kz⟩
                  refine hK _ _ ?_
                  clear hK K
                  refine @BigFrame.wpList_want _ _ _ _ _ _ _ ?hw5203 ?_
                  case hw5203 => kernel_rfl
                  intro K hK
                  go_simp
                  refine hK _ _ ?_
                  clear hK K
                  have PLZ := Lib.hid (PL7.out.step kz)
                  clear kz
                  go_wp2
                  go_roundw
                  case rel => exact ⟨i + 1, by simp, Lib.hid HLT.out, P, Lib.hid (by have := HPI.out; omega), Lib.hid H32.out, (.slice Ta P.length Tc), sl, PLZ⟩
                  case measure => have := HLT.out; simp [RowKit.intOf]; omega
              · by_cases hq1 : dd % 3 = 1
                · as_aux_lemma =>
                  clear hq0
                  go_upto_region 11 with fail
                  refine wp_region_lit ?_
                  refine @wpL_build0 _ _ _ _ _ _ _ ?hw5204 23 rfl _ (build_zeroHash _) ?_
                  case hw5204 => kernel_rfl
                  simp only [Act.put, List.setIfInBounds_toArray, List.set_cons_zero, List.set_cons_succ]
                  refine @wpL_alloc _ _ _ _ _ _ _ _ ?hw5205 23 rfl _ (alloc_hash _) ?_
                  case hw5205 => kernel_rfl
                  simp only [Act.put, List.setIfInBounds_toArray, List.set_cons_zero, List.set_cons_succ]
                  refine @BigFrame.wpList_want _ _ _ _ _ _ _ ?hw5206 ?_
                  case hw5206 => kernel_rfl
                  intro K hK
                  go_simp
                  refine hK _ _ ?_
                  clear hK K
                  refine wpList_store_row rfl 23 _ _ rfl (wr.heap.size) zeros32 rfl rfl 23 zeros32 (heap_new _ _) (HZI.out) (rfl) (zeros32_all) ?_
                  simp only [Act.put]
                  rw [World.setRow_alloc_new]
                  have KR1 : Hid (Kept wr.heap.size wr.heap.size wr (wr.alloc (.cells zeros32 23))) := Lib.hid ((Kept.refl _ _ _).alloc (Nat.le_refl _) _)
                  have Z1 := Lib.hid (heap_new wr (.cells zeros32 23))
                  generalize wr.alloc (.cells zeros32 23) = x1 at KR1 Z1 ⊢
                  obtain ⟨kb, hkb⟩ : ∃ kb, kb = wr.heap.size := ⟨_, rfl⟩
                  rw [← hkb] at Z1 ⊢
                  have HKE := Lib.hid hkb
                  clear hkb
                  go_upto_region 12 with fail
                  refine wp_region_lit ?_
                  refine @wpList_load_known _ _ _ _ _ _ _ ?hw5208 32 (.tmp 9) rfl (mb) (0) rfl (.agg TS) (run_loadVar_row _ mb 32 32 TS (0, 0) _ (HM.out _ KR1.out) Tryd.underlying32 rfl (HMI.out)) ?_
                  case hw5208 => kernel_rfl
                  simp only [Act.put, List.setIfInBounds_toArray, List.set_cons_zero, List.set_cons_succ]
                  refine @BigFrame.wpList_want _ _ _ _ _ _ _ ?hw5209 ?_
                  case hw5209 => kernel_rfl
                  intro K hK
                  go_simp
                  refine hK _ _ ?_
                  clear hK K
                  refine @BigFrame.wpList_want _ _ _ _ _ _ _ ?hw5207 ?_
                  case hw5207 => kernel_rfl
                  intro K hK
                  go_simp
                  go_at_call 8
                  refine (HWI.out _).mono ?_
                  rintro e x2 ⟨rfl, k2⟩
                  refine hK _ _ ?_
                  clear hK K
                  refine @BigFrame.wpList_want _ _ _ _ _ _ _ ?hw5210 ?_
                  case hw5210 => kernel_rfl
                  intro K hK
                  go_simp
                  refine hK _ _ ?_
                  clear hK K
                  have KR2 := Lib.hid (KR1.out.next1 k2)
                  have Z2 := Lib.hid (((k2).block kb (lt_of_block Z1.out) (Nat.ne_of_lt (lt_of_block Z1.out))).trans Z1.out)
                  clear k2
                  go_upto_region 14 with fail
                  refine wp_region_lit ?_
                  refine @wpList_load_known _ _ _ _ _ _ _ ?hw5212 32 (.tmp 9) rfl (mb) (0) rfl (.agg TS) (run_loadVar_row _ mb 32 32 TS (0, 0) _ (HM.out _ KR2.out) Tryd.underlying32 rfl (HMI.out)) ?_
                  case hw5212 => kernel_rfl
                  simp only [Act.put, List.setIfInBounds_toArray, List.set_cons_zero, List.set_cons_succ]
                  refine @BigFrame.wpList_want _ _ _ _ _ _ _ ?hw5213 ?_
                  case hw5213 => kernel_rfl
                  intro K hK
                  go_simp
                  refine hK _ _ ?_
                  clear hK K
                  refine @BigFrame.wpList_want _ _ _ _ _ _ _ ?hw5211 ?_
                  case hw5211 => kernel_rfl
                  intro K hK
                  go_simp
                  go_at_call 9
                  refine (HRG.out _ (HPL.out.step KR2.out).own.gones).mono ?_
                  rintro e x3 ⟨rfl, k3⟩
                  refine hK _ _ ?_
                  clear hK K
                  have KR3 := Lib.hid (KR2.out.next1 k3)
                  have Z3 := Lib.hid (((k3).block kb (lt_of_block Z2.out) (Nat.ne_of_lt (lt_of_block Z2.out))).trans Z2.out)
                  clear k3
                  go_upto_region 16 with fail
                  refine wp_region_lit ?_
                  refine @wpList_load_known _ _ _ _ _ _ _ ?hw5215 32 (.tmp 9) rfl (mb) (0) rfl (.agg TS) (run_loadVar_row _ mb 32 32 TS (0, 0) _ (HM.out _ KR3.out) Tryd.underlying32 rfl (HMI.out)) ?_
                  case hw5215 => kernel_rfl
                  simp only [Act.put, List.setIfInBounds_toArray, List.set_cons_zero, List.set_cons_succ]
                  refine @BigFrame.wpList_want _ _ _ _ _ _ _ ?hw5216 ?_
                  case hw5216 => kernel_rfl
                  intro K hK
                  go_simp
                  refine hK _ _ ?_
                  clear hK K
                  refine @BigFrame.wpList_want _ _ _ _ _ _ _ ?hw5214 ?_
                  case hw5214 => kernel_rfl
                  intro K hK
                  go_simp
                  go_at_call 10
                  refine (HKEY.out _).mono ?_
                  rintro e x4 ⟨rfl, k4⟩
                  refine hK _ _ ?_
                  clear hK K
                  have KR4 := Lib.hid (KR3.out.next1 k4)
                  have Z4 := Lib.hid (((k4).block kb (lt_of_block Z3.out) (Nat.ne_of_lt (lt_of_block Z3.out))).trans Z3.out)
                  clear k4
                  refine wpList_store_row rfl 23 _ _ rfl (kb) KD rfl rfl 23 zeros32 (Z4.out) (HQI.out) (zeros32_size.trans HQS.out.symm) (HQA.out) ?_
                  simp only [Act.put]
                  have Z5 := Lib.hid (setRow_heap x4 kb zeros32 KD _ _ Z4.out)
                  have KR5 : Hid (Kept wr.heap.size wr.heap.size wr (x4.setRow kb KD)) := Lib.hid (KR4.out.trans ⟨rfl, rfl, rfl, by simp [World.setRow], fun k hk _ => setRow_other x4 kb k KD (by have := HKE.out; omega)⟩)
                  generalize x4.setRow kb KD = x5 at Z5 KR5 ⊢
                  have hdo : x5.cell? ⟨cg, co + i * 2, none⟩ = some (.int .u8 dd) := (KR5.out.cell (p := ⟨cg, co + i * 2, none⟩) HCG.out (Nat.ne_of_lt HCG.out)).trans HDO.out
                  go_upto_region 23 with fail
                  refine wp_region_lit ?_
                  refine @BigFrame.wpList_want _ _ _ _ _ _ _ ?hw5218 ?_
                  case hw5218 => kernel_rfl
                  intro K hK
                  go_simp
                  refine hK _ _ ?_
                  clear hK K
                  refine @BigFrame.wpList_want _ _ _ _ _ _ _ ?hw5219 ?_
                  case hw5219 => kernel_rfl
                  intro K hK
                  go_simp
                  refine hK _ _ ?_
                  clear hK K
                  refine @BigFrame.wpList_want _ _ _ _ _ _ _ ?hw5217 ?_
                  case hw5217 => kernel_rfl
                  intro K hK
                  go_simp
                  go_at_call 12
                  refine (HTK.out _ _ (HPL.out.step KR5.out).row).mono ?_
                  rintro e x6 ⟨rfl, sl2, hr2, k6, hn2⟩
                  refine hK _ _ ?_
                  clear hK K
                  refine @BigFrame.wpList_want _ _ _ _ _ _ _ ?hw5220 ?_
                  case hw5220 => kernel_rfl
                  intro K hK
                  go_simp
                  refine hK _ _ ?_
                  clear hK K
                  refine @BigFrame.wpList_want _ _ _ _ _ _ _ ?hw5221 ?_
                  case hw5221 => kernel_rfl
                  intro K hK
                  go_simp
                  refine hK _ _ ?_
                  clear hK K
                  refine @BigFrame.wpList_want _ _ _ _ _ _ _ ?hw5222 ?_
                  case hw5222 => kernel_rfl
                  intro K hK
                  go_simp
                  refine hK _ _ ?_
                  clear hK K
                  have PL6 := Lib.hid ((HPL.out.step KR5.out).take hr2 k6 hn2 HNE.out)
                  have Y6 := Lib.hid ((k6.block kb (lt_of_block Z5.out) (by have := HKE.out; have := HPL.out.lt; have := lt_of_block HPL.out.m; omega)).trans Z5.out)
                  clear k6 hn2 hr2 hdo
                  refine @wpL_alloc _ _ _ _ _ _ _ _ ?hw5223 23 rfl _ (alloc_hash _) ?_
                  case hw5223 => kernel_rfl
                  simp only [Act.put, List.setIfInBounds_toArray, List.set_cons_zero, List.set_cons_succ]
                  refine wpList_store_row rfl 23 _ _ rfl (x6.heap.size) KD rfl rfl 23 zeros32 (heap_new _ _) (HQI.out) (zeros32_size.trans HQS.out.symm) (HQA.out) ?_
                  simp only [Act.put]
                  rw [World.setRow_alloc_new]
                  have kk : Kept x6.heap.size x6.heap.size x6 (x6.alloc (.cells KD 23)) := (Kept.refl _ _ _).alloc (Nat.le_refl _) _
                  have PL7 := Lib.hid (PL6.out.step kk)
                  have Y7 := Lib.hid (((kk).block kb (lt_of_block Y6.out) (Nat.ne_of_lt (lt_of_block Y6.out))).trans Y6.out)
                  have V7 := Lib.hid (heap_new x6 (.cells KD 23))
                  clear kk
                  generalize x6.alloc (.cells KD 23) = x7 at PL7 Y7 V7 ⊢
                  obtain ⟨lb, hlb⟩ : ∃ lb, lb = x6.heap.size := ⟨_, rfl⟩
                  rw [← hlb] at V7 ⊢
                  clear hlb
                  refine @BigFrame.wpList_want _ _ _ _ _ _ _ ?hw5224 ?_
                  case hw5224 => kernel_rfl
                  intro K hK
                  go_simp
                  refine hK _ _ ?_
                  clear hK K
                  have heq := HEQ.out
                  have gd := macGuard25
                  go_upto_region 24 with fail
                  refine wp_region_lit ?_
                  refine @BigFrame.wpList_want _ _ _ _ _ _ _ ?hw5225 ?_
                  case hw5225 => kernel_rfl
                  intro K hK
                  go_simp
                  refine hK _ _ ?_
                  clear hK K
                  refine @BigFrame.wpList_want _ _ _ _ _ _ _ ?hw5226 ?_
                  case hw5226 => kernel_rfl
                  intro K hK
                  go_simp
                  refine hK _ _ ?_
                  clear hK K
                  refine @BigFrame.wpList_want _ _ _ _ _ _ _ ?hw5227 ?_
                  case hw5227 => kernel_rfl
                  intro K hK
                  go_simp
                  refine hK _ _ ?_
                  clear hK K
                  refine @BigFrame.wpList_want _ _ _ _ _ _ _ ?hw5228 ?_
                  case hw5228 => kernel_rfl
                  intro K hK
                  go_simp
                  refine hK _ _ ?_
                  clear hK K
                  refine @wpList_load_known _ _ _ _ _ _ _ ?hw5229 23 (.tmp 16) rfl (lb) (0) rfl (.agg KD) (run_loadVar_row _ lb 23 23 KD (0, 0) _ (V7.out) Tryd.underlying23 rfl (HQI.out)) ?_
                  case hw5229 => kernel_rfl
                  simp only [Act.put, List.setIfInBounds_toArray, List.set_cons_zero, List.set_cons_succ]
                  refine @wpList_load_known _ _ _ _ _ _ _ ?hw5230 23 (.tmp 13) rfl (kb) (0) rfl (.agg KD) (run_loadVar_row _ kb 23 23 KD (0, 0) _ (Y7.out) Tryd.underlying23 rfl (HQI.out)) ?_
                  case hw5230 => kernel_rfl
                  simp only [Act.put, List.setIfInBounds_toArray, List.set_cons_zero, List.set_cons_succ]
                  refine @BigFrame.wpList_want _ _ _ _ _ _ _ ?hw5231 ?_
                  case hw5231 => kernel_rfl
                  intro K hK
                  go_simp
                  refine hK _ _ ?_
                  clear hK K
                  refine @BigFrame.wpList_want _ _ _ _ _ _ _ ?hw5232 ?_
                  case hw5232 => kernel_rfl
                  intro K hK
                  go_simp
                  refine hK _ _ ?_
                  clear hK K
                  clear heq gd
                  have hm7 := PL7.out.m
                  rw [refRow] at hm7
                  have kk7 : Kept x7.heap.size x7.heap.size x7 (x7.alloc (.cells #[.int .i64 (p : Int)] 3)) := (Kept.refl _ _ _).alloc (Nat.le_refl _) _
                  have PL7 := Lib.hid (PL7.out.step kk7)
                  have c33 : x7.cell? ⟨mb, 33, none⟩ = some (.slice Ta P.length Tc) := by
                    rw [cells_at hm7 33 (by simp [bcells_length, HLL.out])]
                    simp [List.getElem_append_right, bcells_length, HLL.out]
                  obtain ⟨T', x8, happ, hown, hgr, hnb⟩ := append_int (x7.alloc (.cells #[.int .i64 (p : Int)] 3)) (mb + 1) (.slice Ta P.length Tc) P PL7.out.own (lt_of_block PL7.out.m) x7.heap.size 1 p (World.cell?_alloc_new x7 _ _ 0) (by have := HPI.out; have := HLT.out; have := HL24.out; omega)
                  have hm8 := (hgr.block mb (lt_of_block PL7.out.m) (fun e => by have := (PL7.out.own.lt mb e.symm).1; omega)).trans PL7.out.m
                  rw [refRow] at hm8
                  have HC8 := Lib.hid (show x8.cell? ⟨mb, 33, none⟩ = some (.slice Ta P.length Tc) by
                    rw [cells_at hm8 33 (by simp [bcells_length, HLL.out])]
                    simp [List.getElem_append_right, bcells_length, HLL.out])
                  have HF8 := Lib.hid (cells_free hm8 33)
                  have PL8 := Lib.hid (PL7.out.more HLL.out (fun s hs => (HIN2.out s hs).2.2) hown hgr hnb)
                  have HAPP := Lib.hid happ
                  obtain ⟨Ta', Tg', Tc', hT', hT2⟩ := hown.shape
                  have hT3 : T' = .slice (some ⟨Tg', 0, none⟩) (P.length + 1) Tc' := by rw [hT', (hT2 (by simp)).1, List.length_append]; rfl
                  clear hT' hT2 hown hgr hnb hm7 kk7 hm8 happ
                  subst hT3
                  go_upto_region 27 with fail
                  refine wp_region_lit ?_
                  refine @BigFrame.wpList_want _ _ _ _ _ _ _ ?hw5233 ?_
                  case hw5233 => kernel_rfl
                  intro K hK
                  go_simp
                  refine hK _ _ ?_
                  clear hK K
                  refine @BigFrame.wpList_want _ _ _ _ _ _ _ ?hw5234 ?_
                  case hw5234 => kernel_rfl
                  intro K hK
                  go_simp
                  refine hK _ _ ?_
                  clear hK K
                  refine @BigFrame.wpList_want _ _ _ _ _ _ _ ?hw5235 ?_
                  case hw5235 => kernel_rfl
                  intro K hK
                  go_simp
                  refine hK _ _ ?_
                  clear hK K
                  refine @BigFrame.wpList_want _ _ _ _ _ _ _ ?hw5236 ?_
                  case hw5236 => kernel_rfl
                  intro K hK
                  go_simp
                  refine hK _ _ ?_
                  clear hK K
                  clear c33
                  refine wpList_append_known rfl _ _ 30 30 30 rfl rfl (.slice Ta P.length Tc) (.slice (some ⟨x7.heap.size, 0, none⟩) 1 1) rfl rfl HAPP.out ?_
                  simp only [Act.put, List.setIfInBounds_toArray, List.set_cons_zero, List.set_cons_succ]
                  have c33 := HC8.out
                  have f33 := HF8.out
                  refine @BigFrame.wpList_want _ _ _ _ _ _ _ ?hw5237 ?_
                  case hw5237 => kernel_rfl
                  intro K hK
                  go_simp
                  refine hK _ _ ?_
                  clear hK K
                  refine @BigFrame.wpList_want _ _ _ _ _ _ _ ?hw5238 ?_
                  case hw5238 => kernel_rfl
                  intro K hK
                  go_simp
                  refine hK _ _ ?_
                  clear hK K
                  clear c33 f33
                  refine wpList_nil ?_
                  generalize x8.setCell ⟨mb, 33, none⟩ (.slice (some ⟨Tg', 0, none⟩) (P.length + 1) Tc') = x9 at PL8 ⊢
                  have HSM := Lib.hid (same_calls l HLL.out n HN32.out (.slice (some ⟨Tg', 0, none⟩) (P.length + 1) Tc') (P ++ [p]) H32b.out (by have := HPI.out; have := HLT.out; have := HL24.out; simp; omega) rb sl2 x9 PL8.out.row PL8.out.own.gones PL8.out.tab HIN2.out (Pp.low_len32 n HN32.out (P ++ [p]) (by have := HPI.out; have := HLT.out; have := HL24.out; simp; omega) l))
                  have HM9 := Lib.hid PL8.out.m
                  obtain ⟨TS2, hTS2⟩ : ∃ TS2, TS2 = refRow l n (.slice (some ⟨Tg', 0, none⟩) (P.length + 1) Tc') := ⟨_, rfl⟩
                  rw [← hTS2] at HSM HM9
                  have HMI2 := Lib.hid (refRowInfo (show TS2.size = 34 by rw [hTS2]; exact refRow_size HLL.out n _))
                  clear hTS2
                  go_upto_region 31 with fail
                  refine wp_region_lit ?_
                  refine @BigFrame.wpList_want _ _ _ _ _ _ _ ?hw5240 ?_
                  case hw5240 => kernel_rfl
                  intro K hK
                  go_simp
                  refine hK _ _ ?_
                  clear hK K
                  refine @wpList_load_known _ _ _ _ _ _ _ ?hw5241 32 (.tmp 9) rfl (mb) (0) rfl (.agg TS2) (run_loadVar_row _ mb 32 32 TS2 (0, 0) _ (HM9.out) Tryd.underlying32 rfl (HMI2.out)) ?_
                  case hw5241 => kernel_rfl
                  simp only [Act.put, List.setIfInBounds_toArray, List.set_cons_zero, List.set_cons_succ]
                  refine @BigFrame.wpList_want _ _ _ _ _ _ _ ?hw5239 ?_
                  case hw5239 => kernel_rfl
                  intro K hK
                  go_simp
                  go_at_call 14
                  refine (HSM.out).mono ?_
                  rintro e xz ⟨rfl, kz⟩
                  refine hK _ _ ?_
                  clear hK K
                  refine @BigFrame.wpList_want _ _ _ _ _ _ _ ?hw5242 ?_
                  case hw5242 => kernel_rfl
                  intro K hK
                  go_simp
                  refine hK _ _ ?_
                  clear hK K
                  have PLZ := Lib.hid (PL8.out.step kz)
                  clear kz
                  go_wp2
                  go_roundw
                  case rel => exact ⟨i + 1, by simp, Lib.hid HLT.out, (P ++ [p]), Lib.hid (by have := HPI.out; simp; omega), Lib.hid H32b.out, (.slice (some ⟨Tg', 0, none⟩) (P.length + 1) Tc'), sl2, PLZ⟩
                  case measure => have := HLT.out; simp [RowKit.intOf]; omega
                · have hq2 : dd % 3 = 2 := by omega
                  as_aux_lemma =>
                  clear hq0 hq1
                  go_upto_region 11 with fail
                  refine wp_region_lit ?_
                  refine @wpL_build0 _ _ _ _ _ _ _ ?hw5243 23 rfl _ (build_zeroHash _) ?_
                  case hw5243 => kernel_rfl
                  simp only [Act.put, List.setIfInBounds_toArray, List.set_cons_zero, List.set_cons_succ]
                  refine @wpL_alloc _ _ _ _ _ _ _ _ ?hw5244 23 rfl _ (alloc_hash _) ?_
                  case hw5244 => kernel_rfl
                  simp only [Act.put, List.setIfInBounds_toArray, List.set_cons_zero, List.set_cons_succ]
                  refine @BigFrame.wpList_want _ _ _ _ _ _ _ ?hw5245 ?_
                  case hw5245 => kernel_rfl
                  intro K hK
                  go_simp
                  refine hK _ _ ?_
                  clear hK K
                  refine wpList_store_row rfl 23 _ _ rfl (wr.heap.size) zeros32 rfl rfl 23 zeros32 (heap_new _ _) (HZI.out) (rfl) (zeros32_all) ?_
                  simp only [Act.put]
                  rw [World.setRow_alloc_new]
                  have KR1 : Hid (Kept wr.heap.size wr.heap.size wr (wr.alloc (.cells zeros32 23))) := Lib.hid ((Kept.refl _ _ _).alloc (Nat.le_refl _) _)
                  have Z1 := Lib.hid (heap_new wr (.cells zeros32 23))
                  generalize wr.alloc (.cells zeros32 23) = x1 at KR1 Z1 ⊢
                  obtain ⟨kb, hkb⟩ : ∃ kb, kb = wr.heap.size := ⟨_, rfl⟩
                  rw [← hkb] at Z1 ⊢
                  have HKE := Lib.hid hkb
                  clear hkb
                  go_upto_region 12 with fail
                  refine wp_region_lit ?_
                  refine @wpList_load_known _ _ _ _ _ _ _ ?hw5247 32 (.tmp 9) rfl (mb) (0) rfl (.agg TS) (run_loadVar_row _ mb 32 32 TS (0, 0) _ (HM.out _ KR1.out) Tryd.underlying32 rfl (HMI.out)) ?_
                  case hw5247 => kernel_rfl
                  simp only [Act.put, List.setIfInBounds_toArray, List.set_cons_zero, List.set_cons_succ]
                  refine @BigFrame.wpList_want _ _ _ _ _ _ _ ?hw5248 ?_
                  case hw5248 => kernel_rfl
                  intro K hK
                  go_simp
                  refine hK _ _ ?_
                  clear hK K
                  refine @BigFrame.wpList_want _ _ _ _ _ _ _ ?hw5246 ?_
                  case hw5246 => kernel_rfl
                  intro K hK
                  go_simp
                  go_at_call 8
                  refine (HWI.out _).mono ?_
                  rintro e x2 ⟨rfl, k2⟩
                  refine hK _ _ ?_
                  clear hK K
                  refine @BigFrame.wpList_want _ _ _ _ _ _ _ ?hw5249 ?_
                  case hw5249 => kernel_rfl
                  intro K hK
                  go_simp
                  refine hK _ _ ?_
                  clear hK K
                  have KR2 := Lib.hid (KR1.out.next1 k2)
                  have Z2 := Lib.hid (((k2).block kb (lt_of_block Z1.out) (Nat.ne_of_lt (lt_of_block Z1.out))).trans Z1.out)
                  clear k2
                  go_upto_region 14 with fail
                  refine wp_region_lit ?_
                  refine @wpList_load_known _ _ _ _ _ _ _ ?hw5251 32 (.tmp 9) rfl (mb) (0) rfl (.agg TS) (run_loadVar_row _ mb 32 32 TS (0, 0) _ (HM.out _ KR2.out) Tryd.underlying32 rfl (HMI.out)) ?_
                  case hw5251 => kernel_rfl
                  simp only [Act.put, List.setIfInBounds_toArray, List.set_cons_zero, List.set_cons_succ]
                  refine @BigFrame.wpList_want _ _ _ _ _ _ _ ?hw5252 ?_
                  case hw5252 => kernel_rfl
                  intro K hK
                  go_simp
                  refine hK _ _ ?_
                  clear hK K
                  refine @BigFrame.wpList_want _ _ _ _ _ _ _ ?hw5250 ?_
                  case hw5250 => kernel_rfl
                  intro K hK
                  go_simp
                  go_at_call 9
                  refine (HRG.out _ (HPL.out.step KR2.out).own.gones).mono ?_
                  rintro e x3 ⟨rfl, k3⟩
                  refine hK _ _ ?_
                  clear hK K
                  have KR3 := Lib.hid (KR2.out.next1 k3)
                  have Z3 := Lib.hid (((k3).block kb (lt_of_block Z2.out) (Nat.ne_of_lt (lt_of_block Z2.out))).trans Z2.out)
                  clear k3
                  go_upto_region 16 with fail
                  refine wp_region_lit ?_
                  refine @wpList_load_known _ _ _ _ _ _ _ ?hw5254 32 (.tmp 9) rfl (mb) (0) rfl (.agg TS) (run_loadVar_row _ mb 32 32 TS (0, 0) _ (HM.out _ KR3.out) Tryd.underlying32 rfl (HMI.out)) ?_
                  case hw5254 => kernel_rfl
                  simp only [Act.put, List.setIfInBounds_toArray, List.set_cons_zero, List.set_cons_succ]
                  refine @BigFrame.wpList_want _ _ _ _ _ _ _ ?hw5255 ?_
                  case hw5255 => kernel_rfl
                  intro K hK
                  go_simp
                  refine hK _ _ ?_
                  clear hK K
                  refine @BigFrame.wpList_want _ _ _ _ _ _ _ ?hw5253 ?_
                  case hw5253 => kernel_rfl
                  intro K hK
                  go_simp
                  go_at_call 10
                  refine (HKEY.out _).mono ?_
                  rintro e x4 ⟨rfl, k4⟩
                  refine hK _ _ ?_
                  clear hK K
                  have KR4 := Lib.hid (KR3.out.next1 k4)
                  have Z4 := Lib.hid (((k4).block kb (lt_of_block Z3.out) (Nat.ne_of_lt (lt_of_block Z3.out))).trans Z3.out)
                  clear k4
                  refine wpList_store_row rfl 23 _ _ rfl (kb) KD rfl rfl 23 zeros32 (Z4.out) (HQI.out) (zeros32_size.trans HQS.out.symm) (HQA.out) ?_
                  simp only [Act.put]
                  have Z5 := Lib.hid (setRow_heap x4 kb zeros32 KD _ _ Z4.out)
                  have KR5 : Hid (Kept wr.heap.size wr.heap.size wr (x4.setRow kb KD)) := Lib.hid (KR4.out.trans ⟨rfl, rfl, rfl, by simp [World.setRow], fun k hk _ => setRow_other x4 kb k KD (by have := HKE.out; omega)⟩)
                  generalize x4.setRow kb KD = x5 at Z5 KR5 ⊢
                  have hdo : x5.cell? ⟨cg, co + i * 2, none⟩ = some (.int .u8 dd) := (KR5.out.cell (p := ⟨cg, co + i * 2, none⟩) HCG.out (Nat.ne_of_lt HCG.out)).trans HDO.out
                  go_upto_region 29 with fail
                  refine wp_region_lit ?_
                  refine @BigFrame.wpList_want _ _ _ _ _ _ _ ?hw5257 ?_
                  case hw5257 => kernel_rfl
                  intro K hK
                  go_simp
                  refine hK _ _ ?_
                  clear hK K
                  refine @BigFrame.wpList_want _ _ _ _ _ _ _ ?hw5258 ?_
                  case hw5258 => kernel_rfl
                  intro K hK
                  go_simp
                  refine hK _ _ ?_
                  clear hK K
                  refine @BigFrame.wpList_want _ _ _ _ _ _ _ ?hw5256 ?_
                  case hw5256 => kernel_rfl
                  intro K hK
                  go_simp
                  go_at_call 13
                  refine (HGN.out _ _ (HPL.out.step KR5.out).row).mono ?_
                  rintro e x6 ⟨rfl, k6⟩
                  refine hK _ _ ?_
                  clear hK K
                  refine @BigFrame.wpList_want _ _ _ _ _ _ _ ?hw5259 ?_
                  case hw5259 => kernel_rfl
                  intro K hK
                  go_simp
                  refine hK _ _ ?_
                  clear hK K
                  refine @BigFrame.wpList_want _ _ _ _ _ _ _ ?hw5260 ?_
                  case hw5260 => kernel_rfl
                  intro K hK
                  go_simp
                  refine hK _ _ ?_
                  clear hK K
                  refine @BigFrame.wpList_want _ _ _ _ _ _ _ ?hw5261 ?_
                  case hw5261 => kernel_rfl
                  intro K hK
                  go_simp
                  refine hK _ _ ?_
                  clear hK K
                  have PL6 := Lib.hid (HPL.out.step (KR5.out.next1 k6))
                  clear k6 hdo
                  have HSM := Lib.hid (same_calls l HLL.out n HN32.out (.slice Ta P.length Tc) P H32.out (by have := HPI.out; have := HLT.out; have := HL24.out; omega) rb sl x6 PL6.out.row PL6.out.own.gones PL6.out.tab HIN.out (Pp.low_len32 n HN32.out P (by have := HPI.out; have := HLT.out; have := HL24.out; omega) l))
                  have HM9 := Lib.hid PL6.out.m
                  rw [← HTS.out] at HSM HM9
                  go_upto_region 31 with fail
                  refine wp_region_lit ?_
                  refine @BigFrame.wpList_want _ _ _ _ _ _ _ ?hw5263 ?_
                  case hw5263 => kernel_rfl
                  intro K hK
                  go_simp
                  refine hK _ _ ?_
                  clear hK K
                  refine @wpList_load_known _ _ _ _ _ _ _ ?hw5264 32 (.tmp 9) rfl (mb) (0) rfl (.agg TS) (run_loadVar_row _ mb 32 32 TS (0, 0) _ (HM9.out) Tryd.underlying32 rfl (HMI.out)) ?_
                  case hw5264 => kernel_rfl
                  simp only [Act.put, List.setIfInBounds_toArray, List.set_cons_zero, List.set_cons_succ]
                  refine @BigFrame.wpList_want _ _ _ _ _ _ _ ?hw5262 ?_
                  case hw5262 => kernel_rfl
                  intro K hK
                  go_simp
                  go_at_call 14
                  refine (HSM.out).mono ?_
                  rintro e xz ⟨rfl, kz⟩
                  refine hK _ _ ?_
                  clear hK K
                  refine @BigFrame.wpList_want _ _ _ _ _ _ _ ?hw5265 ?_
                  case hw5265 => kernel_rfl
                  intro K hK
                  go_simp
                  refine hK _ _ ?_
                  clear hK K
                  have PLZ := Lib.hid (PL6.out.step kz)
                  clear kz
                  go_wp2
                  go_roundw
                  case rel => exact ⟨i + 1, by simp, Lib.hid HLT.out, P, Lib.hid (by have := HPI.out; omega), Lib.hid H32.out, (.slice Ta P.length Tc), sl, PLZ⟩
                  case measure => have := HLT.out; simp [RowKit.intOf]; omega
        · have hnl : ¬ (i : Int) < (ln : Int) := by omega
          clear hlt hi
          go_wp2
          go_ret
          exact ⟨rfl, HPL.out.kept⟩
  · have hlen' : ¬ (ln : Int) ≤ 24 := by omega
    have hgt : (ln : Int) > 24 := by omega
    clear hlen hlen'
    go_wp2_with (first
      | (go_at_call 6; refine (ppr_awake _).mono ?_; rintro e w3 ⟨rfl, k3⟩; have K3 := Lib.hid (K2.out.next1 k3))
      | (go_at_call 6; refine (ppr_awake _).mono ?_; rintro e w2 ⟨rfl, k2⟩; have K2 := Lib.hid (K1.out.next1 k2)))
    go_ret
    exact ⟨rfl, K3.out⟩

end Go.Proofs.YtdnnccnicaoniaaDoor
