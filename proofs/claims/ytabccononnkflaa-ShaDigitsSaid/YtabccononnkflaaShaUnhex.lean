/-
  The landed reading of signs.
-/
import Derived.Test.YtabccononnkflaaShaUnMath
import Derived.Test.YtabccononnkflaaShelf
import Derived.Deep.QuietTactic
import Derived.BigQuiet
import Derived.Deep.Cut
import Derived.Laws.Tables
namespace Go.Proofs.Ytabccononnkflaa
open Go.RowKit

def UnPost (s : ByteArray) (e : Ending) : Prop :=
  (s.size = 64 ∧ s.data.toList.all isSign = true ∧ ∃ h : List UInt8, h.length = 32 ∧ Sm.hex h = s.data.toList ∧ e = .returned (.tuple #[.agg (bcells h).toArray, .bool true])) ∨
  ((s.size ≠ 64 ∨ s.data.toList.all isSign = false) ∧ e = .returned (.tuple #[.agg zeros32, .bool false]))

theorem results_cell_tmp {P : Program} {fn : Func} {p q : Tmp} {ty : TypeId} (h : fn.results = #[.cell p ty, .tmp q]) (tmps : Array Value) (w : World) (g : Nat) (t : TypeId) (cs : Array Value) (fr : Nat × Nat) (d : TypeDesc) (b : Value)
    (hp : tmps.getD p undef = .pointer (some ⟨g, 0, none⟩)) (hq : tmps.getD q undef = b) (hg : w.heap[g]? = some (.cells cs t fr))
    (hu : P.underlying ty = some d) (hd : (match d with | .struct _ | .array _ _ => true | _ => false) = true) (hi : (P.info? ty).map (·.size) = some cs.size) :
    (results fn tmps).run P w = .ok (.tuple #[.agg cs, b]) w := by
  have hp' : tmps[p]?.getD undef = .pointer (some ⟨g, 0, none⟩) := by simpa using hp
  have hq' : tmps[q]?.getD undef = b := by simpa using hq
  simp [results, h, hp', hq', asAddr, run_loadVar_row w g t ty cs fr d hg hu hd hi]

theorem store_old32 {P : Program} (w : World) (g : Nat) (t : TypeId) (old cs : Array Value) (hg : w.heap[g]? = some (.cells old t (0, 0))) (ho : old.size = cs.size) (h1 : cs.all (·.oneCell') = true) : (storeCells ⟨g, 0, none⟩ cs.toList).run P w = .ok () (w.setRow g cs) := by
  have := run_storeCells_from (P := P) g t cs.toList 0 old w hg (by simp; omega) (fun v hv => (Array.all_eq_true_iff_forall_mem.1 h1) v (by simpa using hv))
  rw [this]
  simp

set_option maxRecDepth 100000 in
set_option maxHeartbeats 1600000 in
theorem unhex_calls (s : ByteArray) (w : World) : Calls Try.prog 12 #[.string s] w fun e w' => UnPost s e ∧ Kept w.heap.size w.heap.size w w' := by
  go_enter Try.func12, Try.ntmps12
  go_upto_region 2 with fail
  rw [zeros32_eq]
  have hA : ((w.alloc (.cells zeros32 25)).alloc (.cells zeros32 25)).heap[w.heap.size]? = some (.cells zeros32 25 (0, 0)) := heap_alloc2_old w _ _
  have hB : ((w.alloc (.cells zeros32 25)).alloc (.cells zeros32 25)).heap[w.heap.size + 1]? = some (.cells (brow []).toArray 25 (0, 0)) := heap_alloc2_last w _ _
  have hK : Kept w.heap.size w.heap.size w ((w.alloc (.cells zeros32 25)).alloc (.cells zeros32 25)) := ((Kept.refl _ _ _).alloc (Nat.le_refl _) _).alloc (by simp) _
  have s2 : ((w.alloc (.cells zeros32 25)).alloc (.cells zeros32 25)).heap.size = w.heap.size + 2 := by simp
  generalize (w.alloc (.cells zeros32 25)).alloc (.cells zeros32 25) = w2 at hA hB hK s2 ⊢
  obtain ⟨wb, hwb⟩ : ∃ wb, wb = w.heap.size + 1 := ⟨_, rfl⟩
  obtain ⟨wa, hwa⟩ : ∃ wa, wa = w.heap.size := ⟨_, rfl⟩
  have hab : wa < wb := by omega
  rw [← hwb] at hB ⊢
  rw [← hwa] at hA hK ⊢
  have HWA := Lib.hid hwa
  have HK := Lib.hid hK
  have HA := Lib.hid hA
  have s3 : wb + 1 ≤ w2.heap.size := by omega
  clear hwa hwb hK s2 hA
  have hi : (Try.prog.info? 25).map (·.size) = some zeros32.size := by rw [shaInfo30, zeros32_size]
  have HI := Lib.hid hi
  clear hi
  by_cases h64 : s.size = 64
  · have hd : ((s.size : Int) != 64) = false := by rw [bne_eq_false_iff_eq]; omega
    have hsl : s.data.toList.length = 64 := by rw [← h64]; simp
    go_wp2_with fail
    go_loopw [5, 6, 7, 12] (fun i5 x6 x7 j w9 => ∃ q : Nat, ∃ h : List UInt8, q ≤ 32 ∧ j = .int .i64 (q : Int) ∧ h.length = q ∧ Hid (Sm.hex h = s.data.toList.take (2 * q)) ∧ Hid ((s.data.toList.take (2 * q)).all isSign = true) ∧ Hid (w9.heap[wb]? = some (.cells (brow h).toArray 25 (0, 0))) ∧ Hid (Kept (wb + 1) wb w2 w9)) (fun _ _ _ j _ => 32 - (intOf j).toNat)
    case atStart => exact ⟨0, [], by omega, rfl, rfl, Lib.hid rfl, Lib.hid rfl, Lib.hid hB, Lib.hid (Kept.refl _ _ _)⟩
    case round =>
      obtain ⟨q, h, hq, rfl, hhl, hhex, hall, hO, hk⟩ := hrel
      by_cases hlt : q < 32
      · have hA' := (hk.out.block wa (by omega) (by omega)).trans HA.out
        have hKp : Kept wa wa w wr := HK.out.trans (hk.out.mono (by omega) (fun k hk _ => by omega))
        have HA' := Lib.hid hA'
        have HKp := Lib.hid hKp
        clear hA' hKp
        have b1 := fun w => byte_at (P := Try.prog) w 9 Try.underlying9 s (2 * q) (by omega) (2 * (q : Int)) (by omega)
        have b2 := fun w => byte_at (P := Try.prog) w 9 Try.underlying9 s (2 * q + 1) (by omega) (2 * (q : Int) + 1) (by omega)
        have ht2 : s.data.toList.take (2 * (q + 1)) = s.data.toList.take (2 * q) ++ [s.data.toList[2 * q]'(by omega), s.data.toList[2 * q + 1]'(by omega)] := by
          rw [show 2 * (q + 1) = 2 * q + 1 + 1 by omega, List.take_succ_eq_append_getElem (by omega), List.take_succ_eq_append_getElem (by omega), List.append_assoc]
          rfl
        have hm1 : s.data.toList[2 * q]'(by omega) ∈ s.data.toList := List.getElem_mem _
        have hm2 : s.data.toList[2 * q + 1]'(by omega) ∈ s.data.toList := List.getElem_mem _
        generalize s.data.toList[2 * q]'(by omega) = A at b1 ht2 hm1
        generalize s.data.toList[2 * q + 1]'(by omega) = B at b2 ht2 hm2
        have hi1 : ∀ w, Calls Try.prog 24 #[.string ⟨#[48, 49, 50, 51, 52, 53, 54, 55, 56, 57, 97, 98, 99, 100, 101, 102]⟩, .int .u8 (A.toNat : Int)] w fun e w' => e = .returned (.int .i64 (signAt A)) ∧ w' = w := fun w => by
          have := Try.strings_IndexByte ⟨#[48, 49, 50, 51, 52, 53, 54, 55, 56, 57, 97, 98, 99, 100, 101, 102]⟩ (A.toNat : Int) w
          rw [show ((A.toNat : Int)).toNat.toUInt8 = A by simp] at this
          exact this
        have hi2 : ∀ w, Calls Try.prog 24 #[.string ⟨#[48, 49, 50, 51, 52, 53, 54, 55, 56, 57, 97, 98, 99, 100, 101, 102]⟩, .int .u8 (B.toNat : Int)] w fun e w' => e = .returned (.int .i64 (signAt B)) ∧ w' = w := fun w => by
          have := Try.strings_IndexByte ⟨#[48, 49, 50, 51, 52, 53, 54, 55, 56, 57, 97, 98, 99, 100, 101, 102]⟩ (B.toNat : Int) w
          rw [show ((B.toNat : Int)).toNat.toUInt8 = B by simp] at this
          exact this
        have Hi1 := Lib.hid hi1
        have Hi2 := Lib.hid hi2
        have Ht2 := Lib.hid ht2
        have Hm1 := Lib.hid hm1
        have Hm2 := Lib.hid hm2
        clear hi1 hi2 ht2 hm1 hm2
        have hq1 : (q : Int) < 32 := by omega
        have hca := sign_cases A
        have hcb := sign_cases B
        generalize hsa : signAt A = sa at *
        generalize hsb : signAt B = sb at *
        have Hsa := Lib.hid hsa
        have Hsb := Lib.hid hsb
        clear hsa hsb
        go_wp2_with fail
        go_quiet (first | (go_at_call 24; with_reducible exact Calls.quiet_of_same (Hi1.out _)) | (go_at_call 24; with_reducible exact Calls.quiet_of_same (Hi2.out _)))
        have HA2 : Hid ((wr.drewN nq).heap[wa]? = some (.cells zeros32 25 (0, 0))) := HA'
        have HKp2 : Hid (Kept wa wa w (wr.drewN nq)) := Lib.hid (HKp.out.drewN nq)
        have HO2 : Hid ((wr.drewN nq).heap[wb]? = some (.cells (brow h).toArray 25 (0, 0))) := hO
        have Hk2 : Hid (Kept (wb + 1) wb w2 (wr.drewN nq)) := Lib.hid (hk.out.drewN nq)
        clear HA' HKp hO hk b1 b2
        generalize wr.drewN nq = wx at HA2 HKp2 HO2 Hk2 ⊢
        rcases hca with ⟨ha, rfl⟩ | ⟨da, ha, rfl, hda, hsga⟩
        · have hfalse : s.data.toList.all isSign = false := List.all_eq_false.2 ⟨A, Hm1.out, by simp [ha]⟩
          have HF := Lib.hid hfalse
          clear hfalse ha hcb
          go_wp2_with (refine wpList_build rfl 25 _ rfl (by kernel_rfl) ?_
                       generalize hb8 : Option.getD (Program.built _ _ _) _ = kc8
                       have hkc : kc8 = zeros32 := hb8.symm.trans (by kernel_rfl)
                       have hk8 : kc8.size = 32 := by rw [hkc]; exact zeros32_size
                       have HKC := Lib.hid hkc
                       clear hb8 hkc)
          rw [store_old32 (P := Try.prog) wx wa 25 zeros32 kc8 HA2.out (zeros32_size.trans hk8.symm) (by rw [HKC.out]; exact zeros32_all)]
          have hw' : (wx.setRow wa kc8).heap[wa]? = some (.cells kc8 25 (0, 0)) := setRow_heap _ wa _ kc8 _ _ HA2.out
          have hk' : Kept wa wa w (wx.setRow wa kc8) := (HKp2.out).trans ⟨rfl, rfl, rfl, by simp [World.setRow], fun k hk _ => setRow_other _ wa k kc8 (by omega)⟩
          rw [HKC.out] at hw' hk' ⊢
          generalize wx.setRow wa zeros32 = w9 at hw' hk' ⊢
          have HW9 := Lib.hid hw'
          have HK9 := Lib.hid hk'
          clear hw' hk' hk8
          go_wp2_with fail
          refine bodyPost_ret (results_cell_tmp rfl _ _ wa 25 zeros32 (0, 0) _ (.bool false) rfl rfl HW9.out Try.underlying25 rfl HI.out) rfl ?_
          exact ⟨.inr ⟨.inr HF.out, rfl⟩, by rw [← HWA.out]; exact HK9.out⟩
        · have hdd : decide ((da : Int) < 0) = false := decide_eq_false (by omega)
          rcases hcb with ⟨hb, rfl⟩ | ⟨db, hb, rfl, hdb, hsgb⟩
          · have hfalse : s.data.toList.all isSign = false := List.all_eq_false.2 ⟨B, Hm2.out, by simp [hb]⟩
            have HF := Lib.hid hfalse
            clear hfalse hb
            go_wp2_with (refine wpList_build rfl 25 _ rfl (by kernel_rfl) ?_
                         generalize hb8 : Option.getD (Program.built _ _ _) _ = kc8
                         have hkc : kc8 = zeros32 := hb8.symm.trans (by kernel_rfl)
                         have hk8 : kc8.size = 32 := by rw [hkc]; exact zeros32_size
                         have HKC := Lib.hid hkc
                         clear hb8 hkc)
            rw [store_old32 (P := Try.prog) wx wa 25 zeros32 kc8 HA2.out (zeros32_size.trans hk8.symm) (by rw [HKC.out]; exact zeros32_all)]
            have hw' : (wx.setRow wa kc8).heap[wa]? = some (.cells kc8 25 (0, 0)) := setRow_heap _ wa _ kc8 _ _ HA2.out
            have hk' : Kept wa wa w (wx.setRow wa kc8) := (HKp2.out).trans ⟨rfl, rfl, rfl, by simp [World.setRow], fun k hk _ => setRow_other _ wa k kc8 (by omega)⟩
            rw [HKC.out] at hw' hk' ⊢
            generalize wx.setRow wa zeros32 = w9 at hw' hk' ⊢
            have HW9 := Lib.hid hw'
            have HK9 := Lib.hid hk'
            clear hw' hk' hk8
            go_wp2_with fail
            refine bodyPost_ret (results_cell_tmp rfl _ _ wa 25 zeros32 (0, 0) _ (.bool false) rfl rfl HW9.out Try.underlying25 rfl HI.out) rfl ?_
            exact ⟨.inr ⟨.inr HF.out, rfl⟩, by rw [← HWA.out]; exact HK9.out⟩
          · have hde : decide ((db : Int) < 0) = false := decide_eq_false (by omega)
            have jo := join_or da db hda hdb
            have hjm : (da : Int) * 16 + (db : Int) = (((UInt8.ofNat (da * 16 + db)).toNat : Nat) : Int) := by rw [UInt8.toNat_ofNat']; omega
            have Hjm := Lib.hid hjm
            clear hjm
            have hbl := brow_length h (by omega)
            have co := cells_at HO2.out q (by omega)
            have fo := cells_free HO2.out q
            have hset := cells_set HO2.out q (.int .u8 ((UInt8.ofNat (da * 16 + db)).toNat : Int))
            have e1 := brow_set h (UInt8.ofNat (da * 16 + db)) (by omega)
            rw [hhl] at e1
            rw [e1] at hset
            have hhex2 : Sm.hex (h ++ [UInt8.ofNat (da * 16 + db)]) = s.data.toList.take (2 * (q + 1)) := by
              rw [hex_join h da db hda hdb, hhex.out, hsga, hsgb, Ht2.out]
            have hall2 : (s.data.toList.take (2 * (q + 1))).all isSign = true := by
              rw [Ht2.out, List.all_append, hall.out]
              simp [ha, hb]
            have Hset := Lib.hid hset
            have Kset := Lib.hid (Hk2.out.set (b' := wb) (.inl rfl) q (.int .u8 ((UInt8.ofNat (da * 16 + db)).toNat : Int)))
            have Hhex2 := Lib.hid hhex2
            have Hall2 := Lib.hid hall2
            generalize (brow h)[q]'(by omega) = y0 at co
            have hlen2 : (h ++ [UInt8.ofNat (da * 16 + db)]).length = q + 1 := by rw [List.length_append, List.length_singleton, hhl]
            have Hlen2 := Lib.hid hlen2
            generalize hnew : h ++ [UInt8.ofNat (da * 16 + db)] = hh at Hset Hhex2 Hlen2
            generalize UInt8.ofNat (da * 16 + db) = cc at *
            clear hset e1 hhex2 hall2 hlen2 hnew ha hb hsga hsgb
            go_wp2_with fail
            rw [Hjm.out]
            exact ⟨⟨q + 1, hh, by omega, by rw [Int.natCast_add]; rfl, Hlen2.out, Lib.hid Hhex2.out, Lib.hid Hall2.out, Lib.hid Hset.out, Lib.hid Kset.out⟩, by simp only [intOf]; omega⟩
      · obtain rfl : q = 32 := by omega
        have htk : s.data.toList.take (2 * 32) = s.data.toList := List.take_of_length_le (by omega)
        have hhex' := hhex.out
        have hall' := hall.out
        rw [htk] at hhex' hall'
        have hOr := hO.out
        rw [brow_all _ hhl] at hOr
        have hAr := (hk.out.block wa (by omega) (by omega)).trans HA.out
        have hKr : Kept wa wa w wr := HK.out.trans (hk.out.mono (by omega) (fun k hk _ => by omega))
        have hsz : (bcells h).toArray.size = 32 := by rw [List.size_toArray, bcells_length, hhl]
        have hal := bcells_all h
        have hz32 := zeros32_size
        have Hhex' := Lib.hid hhex'
        have Hall' := Lib.hid hall'
        generalize hcs : (bcells h).toArray = cs at hOr hsz hal
        have Hcs := Lib.hid hcs.symm
        have hi2 : (Try.prog.info? 25).map (·.size) = some cs.size := by rw [shaInfo30, hsz]
        have HI2 := Lib.hid hi2
        have HKr := Lib.hid hKr
        clear hcs hi2 hKr hhex' hall' HA hO
        go_wp2_with (first | (with_reducible refine wpList_load_row rfl 25 _ rfl wb rfl 25 cs (0, 0) _ hOr Try.underlying25 rfl HI2.out ?_) | (with_reducible refine wpList_store_row rfl 25 _ _ rfl wa cs rfl rfl 25 _ hAr HI2.out (hz32.trans hsz.symm) hal ?_))
        obtain ⟨t1, t2⟩ : Kept wa wa w (wr.setRow wa cs) ∧ (wr.setRow wa cs).heap[wa]? = some (.cells cs 25 (0, 0)) :=
          ⟨HKr.out.trans ⟨rfl, rfl, rfl, by simp [World.setRow], fun k hk _ => setRow_other wr wa k cs (by omega)⟩, setRow_heap wr wa _ cs _ _ hAr⟩
        refine bodyPost_ret (results_cell_tmp rfl _ _ wa 25 cs (0, 0) _ (.bool true) rfl rfl t2 Try.underlying25 rfl HI2.out) rfl ?_
        refine ⟨.inl ⟨h64, Hall'.out, h, hhl, Hhex'.out, ?_⟩, by rw [← HWA.out]; exact t1⟩
        rw [Hcs.out]
  · have hd : ((s.size : Int) != 64) = true := by rw [bne_iff_ne]; omega
    go_wp2_with (refine wpList_build rfl 25 _ rfl (by kernel_rfl) ?_
                 generalize hb8 : Option.getD (Program.built _ _ _) _ = kc8
                 have hkc : kc8 = zeros32 := hb8.symm.trans (by kernel_rfl)
                 have hk8 : kc8.size = 32 := by rw [hkc]; exact zeros32_size
                 have HKC := Lib.hid hkc
                 clear hb8 hkc)
    rw [store_old32 (P := Try.prog) w2 wa 25 zeros32 kc8 HA.out (zeros32_size.trans hk8.symm) (by rw [HKC.out]; exact zeros32_all)]
    have hw' : (w2.setRow wa kc8).heap[wa]? = some (.cells kc8 25 (0, 0)) := setRow_heap _ wa _ kc8 _ _ HA.out
    have hk' : Kept wa wa w (w2.setRow wa kc8) := (HK.out).trans ⟨rfl, rfl, rfl, by simp [World.setRow], fun k hk _ => setRow_other _ wa k kc8 (by omega)⟩
    rw [HKC.out] at hw' hk' ⊢
    generalize w2.setRow wa zeros32 = w9 at hw' hk' ⊢
    have HW9 := Lib.hid hw'
    have HK9 := Lib.hid hk'
    clear hw' hk' hk8
    go_wp2_with fail
    refine bodyPost_ret (results_cell_tmp rfl _ _ wa 25 zeros32 (0, 0) _ (.bool false) rfl rfl HW9.out Try.underlying25 rfl HI.out) rfl ?_
    exact ⟨.inr ⟨.inl h64, rfl⟩, by rw [← HWA.out]; exact HK9.out⟩

end Go.Proofs.Ytabccononnkflaa
