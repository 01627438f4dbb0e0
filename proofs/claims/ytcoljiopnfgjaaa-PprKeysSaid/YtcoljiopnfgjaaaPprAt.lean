/-
  The document's at and Key.
-/
import Derived.Test.YtcoljiopnfgjaaaPprRef

namespace Go.Proofs.Ytcoljiopnfgjaaa
open Go.RowKit Go.Lib

theorem alloc_hash32 (w : World) : (Instr.alloc 25 true (.tuple #[])).run Try.prog w = .ok (.pointer (some ⟨w.heap.size, 0, none⟩)) (w.alloc (.cells zeros32 25)) := by
  rw [← zeros32_eq]
  kernel_rfl
theorem refRow_root {w : World} {b : Nat} {t : TypeId} {l : List UInt8} {bits : Nat} {T : Value} (h : w.heap[b]? = some (.cells (refRow l bits T) t (0, 0))) : w.rangeAt b 0 (bcells l) := fun j v hj => by
  rw [Nat.zero_add, cell_of_row w b j _ _ _ h, refRow, List.getElem?_toArray, List.getElem?_append_left (List.getElem?_eq_some_iff.1 hj).1]
  exact hj
theorem h32Info {cs : Array Value} (h : cs.size = 32) : (Try.prog.info? 25).map (·.size) = some cs.size := by rw [h]; kernel_rfl
theorem quo_two (p i : Nat) : (p : Int).tdiv ((2 ^ i : Nat) : Int) = ((p / 2 ^ i : Nat) : Int) := rfl

set_option maxRecDepth 100000 in
set_option maxHeartbeats 6400000 in
theorem at_calls (l : List UInt8) (hl : l.length = 32) (bits : Nat) (T : Value) (n : Nat) (hn : n ≤ 32) (p : Nat) (hp : p < 2 ^ 32) (w : World) : Calls Try.prog 61 #[.agg (refRow l bits T), .int .i64 (n : Int), .int .i64 (p : Int)] w fun e w' => e = .returned (.agg (bcells (Pp.path p n l)).toArray) ∧ Kept w.heap.size w.heap.size w w' := by
  have hroot := fun (w2 : World) (b : Nat) h => refRow_root (w := w2) (b := b) (t := 60) (l := l) (bits := bits) (T := T) h
  generalize refRow l bits T = RD at hroot ⊢
  obtain ⟨RES, hRES⟩ : ∃ RES, RES = Pp.path p n l := ⟨_, rfl⟩
  rw [← hRES]
  have HRL := Lib.hid (show RES.length = 32 by rw [hRES]; exact Pp.path_length p n l hl)
  have HRES := Lib.hid hRES.symm
  have HL := Lib.hid hl
  have HN := Lib.hid hn
  have hn32 : (n : Int) ≤ 32 := by omega
  have hp4 : (p : Int) < 4294967296 := by omega
  have hk2 : Kept w.heap.size w.heap.size w ((w.alloc (.cells RD 60)).alloc (.cells zeros32 25)) := ((Kept.refl _ _ _).alloc (Nat.le_refl _) _).alloc (by simp) _
  have hr2 : ((w.alloc (.cells RD 60)).alloc (.cells zeros32 25)).heap[w.heap.size]? = some (.cells RD 60 (0, 0)) := heap_alloc2_old w _ _
  have hz2 : ((w.alloc (.cells RD 60)).alloc (.cells zeros32 25)).heap[w.heap.size + 1]? = some (.cells zeros32 25 (0, 0)) := heap_alloc2_last w _ _
  have hx2 := hroot _ _ hr2
  have K2 := Lib.hid hk2
  have Z2 := Lib.hid hz2
  have X2 := Lib.hid hx2
  clear hRES hl hn hp hroot hk2 hr2 hz2 hx2
  go_enter Try.func61, Try.ntmps61
  go_upto_region 1 with fail
  rw [zeros32_eq]
  generalize (w.alloc (.cells RD 60)).alloc (.cells zeros32 25) = w2 at K2 Z2 X2 ⊢
  obtain ⟨wa, hwa⟩ : ∃ wa, wa = w.heap.size := ⟨_, rfl⟩
  rw [← hwa] at Z2 X2 ⊢
  have HWA := Lib.hid hwa
  clear hwa
  obtain ⟨LD, hLD⟩ : ∃ LD, LD = (bcells l).toArray := ⟨_, rfl⟩
  have HLS := Lib.hid (show LD.size = 32 by rw [hLD, List.size_toArray, bcells_length]; exact HL.out)
  have HLA := Lib.hid (show LD.all (·.oneCell') = true by rw [hLD]; exact bcells_all _)
  have HLI := Lib.hid (h32Info HLS.out)
  have HLD := Lib.hid hLD
  clear hLD
  refine wp_region_lit ?_
  refine @BigFrame.wpList_want _ _ _ _ _ _ _ ?hw1301 ?_
  case hw1301 => kernel_rfl
  intro K hK
  go_simp
  refine hK _ _ ?_
  clear hK K
  refine wpList_load_mid rfl 25 (.tmp 9) rfl wa 0 rfl (bcells l) _ X2.out Try.underlying25 rfl (by have := HLI.out; rw [HLD.out] at this; simpa using this) ?_
  simp only [Act.put, List.setIfInBounds_toArray, List.set_cons_zero, List.set_cons_succ]
  rw [← HLD.out]
  refine wpList_alloc_k rfl 25 rfl (alloc_hash32 _) ?_
  simp only [Act.put, List.setIfInBounds_toArray, List.set_cons_zero, List.set_cons_succ]
  refine wpList_store_row rfl 25 _ _ rfl (w2.heap.size) LD rfl rfl 25 zeros32 (heap_new _ _) (HLI.out) (by rw [zeros32_size, HLS.out]) (HLA.out) ?_
  simp only [Act.put]
  rw [World.setRow_alloc_new]
  have hb3 := heap_new w2 (.cells LD 25)
  have K3 := Lib.hid (K2.out.alloc K2.out.size (.cells LD 25))
  have Z3 : Hid ((w2.alloc (.cells LD 25)).heap[wa + 1]? = some (.cells zeros32 25 (0, 0))) := Lib.hid ((Below.heap_alloc _ _ _ (lt_of_block Z2.out)).trans Z2.out)
  have HZB := Lib.hid (show wa + 1 < w2.heap.size from lt_of_block Z2.out)
  generalize w2.alloc (.cells LD 25) = w3 at hb3 K3 Z3 ⊢
  obtain ⟨sb, hsb⟩ : ∃ sb, sb = w2.heap.size := ⟨_, rfl⟩
  rw [← hsb] at hb3 HZB ⊢
  have B3 := Lib.hid hb3
  clear hb3 hsb X2
  go_wp2_with fail
  go_loopw [8] (fun s8 wr => ∃ (i : Nat) (s : List UInt8), s8 = .int .i64 ((i : Int) - 1) ∧ Hid (i ≤ n) ∧ Hid (s.length = 32) ∧ Hid (Pp.path p i s = RES) ∧ Hid (wr.heap[sb]? = some (.cells (bcells s).toArray 25 (0, 0))) ∧ Hid (wr.heap[wa + 1]? = some (.cells zeros32 25 (0, 0))) ∧ Hid (Kept w.heap.size w.heap.size w wr)) (fun s8 _ => (RowKit.intOf s8 + 1).toNat)
  case atStart => exact ⟨n, l, rfl, Lib.hid (Nat.le_refl _), HL, HRES, Lib.hid (by rw [← HLD.out]; exact B3.out), Z3, K3⟩
  case round =>
    clear B3 Z3 K3 K2 Z2
    obtain ⟨i, s, rfl, hi, HS, HPA, HBL, HZ, HK⟩ := hrel
    obtain ⟨SD, hSD⟩ : ∃ SD, SD = (bcells s).toArray := ⟨_, rfl⟩
    rw [← hSD] at HBL
    have HSS := Lib.hid (show SD.size = 32 by rw [hSD, List.size_toArray, bcells_length]; exact HS.out)
    have HSA := Lib.hid (show SD.all (·.oneCell') = true by rw [hSD]; exact bcells_all _)
    have HSI := Lib.hid (h32Info HSS.out)
    have HSD := Lib.hid hSD
    clear hSD
    cases i with
    | zero =>
      have hneg : ¬ ((0 : Nat) : Int) - 1 ≥ 0 := by omega
      go_upto_region 6 with fail
      refine wp_region_lit ?_
      refine wpList_load_row rfl 25 (.tmp 7) rfl (sb) rfl 25 SD (0, 0) _ (HBL.out) Try.underlying25 rfl (HSI.out) ?_
      simp only [Act.put, List.setIfInBounds_toArray, List.set_cons_zero, List.set_cons_succ]
      refine wpList_store_row rfl 25 _ _ rfl (wa + 1) SD rfl rfl 25 zeros32 (HZ.out) (HSI.out) (by rw [zeros32_size, HSS.out]) (HSA.out) ?_
      simp only [Act.put]
      have k6 : Kept w.heap.size w.heap.size w (wr.setRow (wa + 1) SD) := HK.out.trans ⟨rfl, rfl, rfl, by simp [World.setRow], fun k hk _ => setRow_other wr (wa + 1) k SD (by have := HWA.out; omega)⟩
      have r6 := setRow_heap wr (wa + 1) zeros32 SD _ _ HZ.out
      generalize wr.setRow (wa + 1) SD = w6 at k6 r6 ⊢
      go_wp2
      refine bodyPost_ret (results_cell_row rfl _ _ (wa + 1) 25 SD (0, 0) _ rfl r6 Try.underlying25 rfl HSI.out) rfl ?_
      exact ⟨by rw [HSD.out, ← HPA.out]; rfl, k6⟩
    | succ i =>
      have hpos : ((i + 1 : Nat) : Int) - 1 ≥ 0 := by omega
      have hi32 : (i : Int) ≤ 32 := by have := hi.out; have := HN.out; omega
      obtain ⟨N2, hN2⟩ : ∃ N2 : Int, N2 = ((2 ^ i : Nat) : Int) := ⟨_, rfl⟩
      have hpow := fun w => power_calls i (by have := hi.out; have := HN.out; omega) w
      rw [← hN2] at hpow
      have HP := Lib.hid hpow
      have hN20 : ¬ N2 = 0 := by rw [hN2]; have := Nat.two_pow_pos i; generalize 2 ^ i = q at this ⊢; omega
      have hN21 : 0 ≤ N2 := by rw [hN2]; exact Int.natCast_nonneg _
      obtain ⟨Q, hQ⟩ : ∃ Q : Int, Q = ((p / 2 ^ i : Nat) : Int) := ⟨_, rfl⟩
      have HQ := Lib.hid (show IntKind.i64.wrap ((p : Int) / N2) = Q by
        rw [hN2, hQ, show (p : Int) / ((2 ^ i : Nat) : Int) = ((p / 2 ^ i : Nat) : Int) from rfl, IntKind.wrap_i64]
        have := Nat.div_le_self p (2 ^ i)
        generalize p / 2 ^ i = q at this ⊢
        omega)
      have hQ0 : 0 ≤ Q := by rw [hQ]; exact Int.natCast_nonneg _
      clear hpow
      obtain ⟨r, hr⟩ : ∃ r : Bool, r = decide (p / 2 ^ i % 2 = 1) := ⟨_, rfl⟩
      obtain ⟨t, ht⟩ : ∃ t, t = (if p / 2 ^ i % 2 = 1 then Sm.sum (Pp.wRight ++ s) else Sm.sum (Pp.wLeft ++ s)) := ⟨_, rfl⟩
      have hdown : ∀ w, Calls Try.prog 62 #[.agg SD, .bool r] w fun e w' => e = .returned (.agg (bcells t).toArray) ∧ Kept w.heap.size w.heap.size w w' := fun w => by
        rw [HSD.out, hr, ht]
        by_cases h : p / 2 ^ i % 2 = 1
        · rw [if_pos h, decide_eq_true h]
          exact refdown_right s HS.out w
        · rw [if_neg h, decide_eq_false h]
          exact refdown_left s HS.out w
      have HT32 := Lib.hid (show t.length = 32 by rw [ht]; split <;> exact sum_length _)
      have HPT := Lib.hid (show Pp.path p i t = RES by rw [← HPA.out, Pp.path, ← ht])
      obtain ⟨TD, hTD⟩ : ∃ TD, TD = (bcells t).toArray := ⟨_, rfl⟩
      have HTS := Lib.hid (show TD.size = 32 by rw [hTD, List.size_toArray, bcells_length]; exact HT32.out)
      have HTA := Lib.hid (show TD.all (·.oneCell') = true by rw [hTD]; exact bcells_all _)
      have HTI := Lib.hid (h32Info HTS.out)
      rw [← hTD] at hdown
      have HTD := Lib.hid hTD
      have HDOWN := Lib.hid hdown
      have hrq : ((Q.tmod 2) == 1) = r := by
        rw [hQ, hr, show ((p / 2 ^ i : Nat) : Int).tmod 2 = ((p / 2 ^ i % 2 : Nat) : Int) from rfl, Bool.eq_iff_iff, beq_iff_eq, decide_eq_true_iff]
        generalize p / 2 ^ i = q
        omega
      have HRQ := Lib.hid hrq
      clear hr ht hdown hTD hrq hN2 hQ
      go_upto_region 5 with fail
      refine wp_region_still_tail 7 (by kernel_rfl) (by kernel_rfl) ?_
      simp only [List.take_succ_cons, List.take_zero, List.drop_succ_cons, List.drop_zero]
      generalize hw9 : ({ heap := wr.heap, tape := wr.tape, drawn := wr.drawn + 1, os := wr.os, output := wr.output } : World) = wd
      have HBd : Hid (wd.heap[sb]? = some (.cells SD 25 (0, 0))) := Lib.hid (by rw [← hw9]; exact HBL.out)
      have HZd : Hid (wd.heap[wa + 1]? = some (.cells zeros32 25 (0, 0))) := Lib.hid (by rw [← hw9]; exact HZ.out)
      have HKd : Hid (Kept w.heap.size w.heap.size w wd) := Lib.hid (by rw [← hw9]; exact HK.out.drew)
      clear hw9 HBL HZ HK
      refine @wpStill_load_known _ _ _ _ _ _ _ ?hw1302 25 (.tmp 7) rfl (sb) 0 rfl (.agg SD) (run_loadVar_row wd sb 25 25 SD (0, 0) _ HBd.out Try.underlying25 rfl HSI.out) ?_
      case hw1302 => kernel_rfl
      simp only [Act.put, List.setIfInBounds_toArray, List.set_cons_zero, List.set_cons_succ]
      refine @wpStill_want _ _ _ _ _ _ _ ?hw1303 ?_
      case hw1303 => kernel_rfl
      intro K hK
      go_simp
      refine hK _ ?_
      clear hK K
      refine @wpStill_want _ _ _ _ _ _ _ ?hw1304 ?_
      case hw1304 => kernel_rfl
      intro K hK
      go_simp
      refine hK _ ?_
      clear hK K
      refine @wpStill_want _ _ _ _ _ _ _ ?hw1305 ?_
      case hw1305 => kernel_rfl
      intro K hK
      go_simp
      refine ⟨_, (HP.out wd).mono (fun e w2 h => h), ?_⟩
      refine hK _ ?_
      clear hK K
      refine @wpStill_want _ _ _ _ _ _ _ ?hw1306 ?_
      case hw1306 => kernel_rfl
      intro K hK
      go_simp
      rw [HQ.out]
      refine hK _ ?_
      clear hK K
      refine @wpStill_want _ _ _ _ _ _ _ ?hw1307 ?_
      case hw1307 => kernel_rfl
      intro K hK
      go_simp
      refine hK _ ?_
      clear hK K
      refine @wpStill_want _ _ _ _ _ _ _ ?hw1308 ?_
      case hw1308 => kernel_rfl
      intro K hK
      go_simp
      rw [HRQ.out]
      refine hK _ ?_
      clear hK K
      refine wpStill_nil ?_
      refine @BigFrame.wpList_want _ _ _ _ _ _ _ ?hw1309 ?_
      case hw1309 => kernel_rfl
      intro K hK
      go_simp
      go_at_call 62
      refine (HDOWN.out _).mono ?_
      rintro e w6 ⟨rfl, k6⟩
      refine hK _ _ ?_
      clear hK K
      have HB6 := Lib.hid ((k6.block _ (lt_of_block HBd.out) (Nat.ne_of_lt (lt_of_block HBd.out))).trans HBd.out)
      have HZ6 := Lib.hid ((k6.block _ (lt_of_block HZd.out) (Nat.ne_of_lt (lt_of_block HZd.out))).trans HZd.out)
      have HK6 := Lib.hid (HKd.out.next1 k6)
      clear k6
      refine wpList_store_row rfl 25 _ _ rfl (sb) TD rfl rfl 25 SD (HB6.out) (HTI.out) (by rw [HSS.out, HTS.out]) (HTA.out) ?_
      simp only [Act.put]
      have hb7 := setRow_heap w6 sb SD TD _ _ HB6.out
      have hz7 := (setRow_other w6 sb (wa + 1) TD (by have := HZB.out; omega)).trans HZ6.out
      have hk7 : Kept w.heap.size w.heap.size w (w6.setRow sb TD) := HK6.out.trans ⟨rfl, rfl, rfl, by simp [World.setRow], fun k hk _ => setRow_other w6 sb k TD (by have := HZB.out; have := HWA.out; omega)⟩
      generalize w6.setRow sb TD = w7 at hb7 hz7 hk7 ⊢
      have HB7 := Lib.hid hb7
      have HZ7 := Lib.hid hz7
      have HK7 := Lib.hid hk7
      clear hb7 hz7 hk7
      go_wp2_with fail
      go_roundw
      case rel => exact ⟨i, t, by simp, Lib.hid (by have := hi.out; omega), HT32, HPT, Lib.hid (by rw [← HTD.out]; exact HB7.out), HZ7, HK7⟩
      case measure => simp [RowKit.intOf]

set_option maxRecDepth 100000 in
set_option maxHeartbeats 6400000 in
theorem refkey_calls (l : List UInt8) (hl : l.length = 32) (bits : Nat) (hb : bits ≤ 32) (T : Value) (p : Nat) (hp : p < 2 ^ 32) (w : World) : Calls Try.prog 38 #[.agg (refRow l bits T), .int .i64 (p : Int)] w fun e w' => e = .returned (.agg (bcells (Pp.key (Pp.path p bits l))).toArray) ∧ Kept w.heap.size w.heap.size w w' := by
  have hat := fun w => at_calls l hl bits T bits hb p hp w
  have hcell := fun (w2 : World) (b : Nat) h => refRow_bits (w := w2) (b := b) (t := 60) hl (bits := bits) (T := T) h
  have hrs := refRow_size hl bits T
  have hk := Pp.path_length p bits l hl
  generalize Pp.path p bits l = k at hat hk ⊢
  generalize refRow l bits T = RD at hat hcell hrs ⊢
  have hsum := fun w => refsum_calls (⟨#[107, 101, 121]⟩ ++ str k) w (by have h : (str k).size = 32 := (str_size k).trans hk; simp [ByteArray.size_append, h]; decide)
  rw [show Sm.sum ((⟨#[107, 101, 121]⟩ ++ str k : ByteArray)).data.toList = Pp.key k by congr 1] at hsum
  have hml : (Pp.key k).length = 32 := sum_length _
  generalize Pp.key k = m at hsum hml ⊢
  obtain ⟨MD, hMD⟩ : ∃ MD, MD = (bcells m).toArray := ⟨_, rfl⟩
  have HMS := Lib.hid (show MD.size = 32 by rw [hMD, List.size_toArray, bcells_length]; exact hml)
  have HMA := Lib.hid (show MD.all (·.oneCell') = true by rw [hMD]; exact bcells_all _)
  have HMI := Lib.hid (h32Info HMS.out)
  simp only [← hMD] at hsum
  rw [← hMD]
  obtain ⟨sk, hsk⟩ : ∃ sk, sk = str k := ⟨_, rfl⟩
  have HSKS := Lib.hid (show sk.size = 32 by rw [hsk, str_size, hk])
  obtain ⟨kc, hkc⟩ : ∃ kc, kc = (bcells k).toArray := ⟨_, rfl⟩
  have HCS := Lib.hid (show kc.size = 32 by rw [hkc, List.size_toArray, bcells_length]; exact hk)
  have HCA := Lib.hid (show kc.all (·.oneCell') = true by rw [hkc]; exact bcells_all _)
  have HCI := Lib.hid (h32Info HCS.out)
  simp only [← hkc] at hat
  simp only [← hsk] at hsum
  have HSUM := Lib.hid hsum
  have HAT := Lib.hid hat
  have Hsk := Lib.hid hsk
  have Hkc := Lib.hid hkc
  have HK32 := Lib.hid hk
  have HRI := Lib.hid (show (Try.prog.info? 60).map (·.size) = some RD.size by rw [hrs]; kernel_rfl)
  have hsk32 := HSKS.out
  have hk2 : Kept w.heap.size w.heap.size w ((w.alloc (.cells RD 60)).alloc (.cells zeros32 25)) := ((Kept.refl _ _ _).alloc (Nat.le_refl _) _).alloc (by simp) _
  have hr2 : ((w.alloc (.cells RD 60)).alloc (.cells zeros32 25)).heap[w.heap.size]? = some (.cells RD 60 (0, 0)) := heap_alloc2_old w _ _
  have hz2 : ((w.alloc (.cells RD 60)).alloc (.cells zeros32 25)).heap[w.heap.size + 1]? = some (.cells zeros32 25 (0, 0)) := heap_alloc2_last w _ _
  have hc2 := hcell _ _ hr2
  have K2 := Lib.hid hk2
  have Z2 := Lib.hid hz2
  have R2 := Lib.hid hr2
  clear hsum hat hml hMD hsk hkc hk hl hp hb hrs hcell hk2 hr2 hz2
  go_enter Try.func38, Try.ntmps38
  go_upto_region 1 with fail
  rw [zeros32_eq]
  generalize (w.alloc (.cells RD 60)).alloc (.cells zeros32 25) = w2 at K2 Z2 R2 hc2 ⊢
  obtain ⟨wa, hwa⟩ : ∃ wa, wa = w.heap.size := ⟨_, rfl⟩
  rw [← hwa] at Z2 R2 hc2 ⊢
  have HWA := Lib.hid hwa
  clear hwa
  refine wp_region_lit ?_
  refine wpList_load_row rfl 60 (.tmp 2) rfl (wa) rfl 60 RD (0, 0) _ (R2.out) Try.underlying60 rfl (HRI.out) ?_
  simp only [Act.put, List.setIfInBounds_toArray, List.set_cons_zero, List.set_cons_succ]
  refine @BigFrame.wpList_want _ _ _ _ _ _ _ ?hw1310 ?_
  case hw1310 => kernel_rfl
  intro K hK
  go_simp
  refine hK _ _ ?_
  clear hK K
  refine @BigFrame.wpList_want _ _ _ _ _ _ _ ?hw1310 ?_
  case hw1310 => kernel_rfl
  intro K hK
  go_simp
  refine hK _ _ ?_
  clear hK K
  refine @BigFrame.wpList_want _ _ _ _ _ _ _ ?hw1310 ?_
  case hw1310 => kernel_rfl
  intro K hK
  go_simp
  refine hK _ _ ?_
  clear hK K
  refine @BigFrame.wpList_want _ _ _ _ _ _ _ ?hw1311 ?_
  case hw1311 => kernel_rfl
  intro K hK
  go_simp
  go_at_call 61
  refine (HAT.out _).mono ?_
  rintro e w3 ⟨rfl, k3⟩
  refine hK _ _ ?_
  clear hK K
  have K3 := Lib.hid (K2.out.next1 k3)
  have Z3 := Lib.hid ((k3.block _ (lt_of_block Z2.out) (Nat.ne_of_lt (lt_of_block Z2.out))).trans Z2.out)
  clear k3 hc2
  refine wpList_alloc_k rfl 25 rfl (alloc_hash32 _) ?_
  simp only [Act.put, List.setIfInBounds_toArray, List.set_cons_zero, List.set_cons_succ]
  refine wpList_store_row rfl 25 _ _ rfl (w3.heap.size) kc rfl rfl 25 zeros32 (heap_new _ _) (HCI.out) (by rw [zeros32_size, HCS.out]) (HCA.out) ?_
  simp only [Act.put]
  rw [World.setRow_alloc_new]
  have hb4 := heap_new w3 (.cells kc 25)
  have K4 := Lib.hid (K3.out.alloc K3.out.size (.cells kc 25))
  have Z4 := Lib.hid ((Below.heap_alloc w3 (.cells kc 25) _ (lt_of_block Z3.out)).trans Z3.out)
  generalize w3.alloc (.cells kc 25) = w4 at hb4 K4 Z4 ⊢
  obtain ⟨sb, hsb⟩ : ∃ sb, sb = w3.heap.size := ⟨_, rfl⟩
  rw [← hsb] at hb4 ⊢
  have cA : (convert 45 9 (.slice (some ⟨sb, 0, none⟩) 32 32)).run Try.prog w4 = .ok (.string sk) w4 := by
    rw [Hsk.out]
    exact conv_hash HK32.out (by rw [← Hkc.out]; exact hb4)
  clear hb4 hsb
  go_upto_region 2 with fail
  refine wp_region_lit ?_
  refine @BigFrame.wpList_want _ _ _ _ _ _ _ ?hw1312 ?_
  case hw1312 => kernel_rfl
  intro K hK
  go_simp
  refine hK _ _ ?_
  clear hK K
  refine @BigFrame.wpList_want _ _ _ _ _ _ _ ?hw1312 ?_
  case hw1312 => kernel_rfl
  intro K hK
  go_simp
  refine hK _ _ ?_
  clear hK K
  refine @BigFrame.wpList_want _ _ _ _ _ _ _ ?hw1312 ?_
  case hw1312 => kernel_rfl
  intro K hK
  go_simp
  refine hK _ _ ?_
  clear hK K
  refine @BigFrame.wpList_want _ _ _ _ _ _ _ ?hw1313 ?_
  case hw1313 => kernel_rfl
  intro K hK
  go_simp
  go_at_call 47
  refine (HSUM.out _).mono ?_
  rintro e w5 ⟨rfl, k5⟩
  refine hK _ _ ?_
  clear hK K
  have Z5 := Lib.hid ((k5.block _ (lt_of_block Z4.out) (Nat.ne_of_lt (lt_of_block Z4.out))).trans Z4.out)
  have K5 := Lib.hid (K4.out.next1 k5)
  clear k5
  refine wpList_store_row rfl 25 _ _ rfl (wa + 1) MD rfl rfl 25 zeros32 (Z5.out) (HMI.out) (by rw [zeros32_size, HMS.out]) (HMA.out) ?_
  simp only [Act.put]
  have k6 : Kept w.heap.size w.heap.size w (w5.setRow (wa + 1) MD) := K5.out.trans ⟨rfl, rfl, rfl, by simp [World.setRow], fun k hk _ => setRow_other w5 (wa + 1) k MD (by have := HWA.out; omega)⟩
  have r6 := setRow_heap w5 (wa + 1) zeros32 MD _ _ Z5.out
  generalize w5.setRow (wa + 1) MD = w6 at k6 r6 ⊢
  go_wp2
  refine bodyPost_ret (results_cell_row rfl _ _ (wa + 1) 25 MD (0, 0) _ rfl r6 Try.underlying25 rfl HMI.out) rfl ?_
  exact ⟨rfl, k6⟩

end Go.Proofs.Ytcoljiopnfgjaaa
