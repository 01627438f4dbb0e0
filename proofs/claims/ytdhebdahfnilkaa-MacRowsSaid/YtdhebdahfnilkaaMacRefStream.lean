/-
  The document's row of bytes.
-/
import Derived.Test.YtdhebdahfnilkaaMacRefCode
import Derived.Deep.RegionHeld3
import Derived.Deep.DeepCutAuto
namespace Go.Proofs.Ytdhebdahfnilkaa
open Go.RowKit

theorem stream_more (k : List UInt8) (q j : Nat) (hj : j < 32) (c : UInt8) (hc : (Mc.code k (Mc.four q))[j]? = some c) : Mc.stream k (32 * q + (j + 1)) = Mc.stream k (32 * q + j) ++ [c] := by
  rw [← Mc.row_take k (32 * q + (j + 1)) (q + 1) (by omega), ← Mc.row_take k (32 * q + j) (q + 1) (by omega)]
  have hl := Mc.row_length k (q + 1)
  have hlt : 32 * q + j < (Mc.row k (q + 1)).length := by omega
  have hx : (Mc.row k (q + 1))[32 * q + j]? = some c := by
    rw [Mc.row, List.getElem?_append_right (by rw [Mc.row_length]; omega), Mc.row_length, Nat.add_sub_cancel_left, hc]
  rw [← Nat.add_assoc, List.take_succ_eq_append_getElem hlt]
  rw [List.getElem?_eq_getElem hlt] at hx
  rw [Option.some.inj hx]

set_option maxRecDepth 100000 in
set_option maxHeartbeats 3200000 in
theorem refstream_calls (k : List UInt8) (hk : Hid (k.length = 32)) (n : Nat) (h2 : Hid (n ≤ 3000)) (w : World) : Calls Try.prog 17 #[.agg (bcells k).toArray, .int .i64 (n : Int)] w fun e w' => e = .returned (.string (str (Mc.stream k n))) ∧ Kept w.heap.size w.heap.size w w' := by
  generalize hkc : (bcells k).toArray = kc
  have Hkc := Lib.hid hkc
  clear hkc
  have hn3 := h2.out
  go_enter Try.func17, Try.ntmps17
  go_upto_region 1 with fail
  have hA : (w.alloc (.cells kc 24)).heap[w.heap.size]? = some (.cells kc 24 (0, 0)) := heap_new _ _
  have k1 : Kept w.heap.size w.heap.size w (w.alloc (.cells kc 24)) := (Kept.refl _ _ _).alloc (Nat.le_refl _) _
  have s1 : (w.alloc (.cells kc 24)).heap.size = w.heap.size + 1 := by simp
  generalize w.alloc (.cells kc 24) = w1 at hA k1 s1 ⊢
  obtain ⟨wa, hwa⟩ : ∃ wa, wa = w.heap.size := ⟨_, rfl⟩
  rw [← hwa] at hA k1 s1 ⊢
  have HWA := Lib.hid hwa
  have HA := Lib.hid hA
  have HK1 := Lib.hid k1
  have HS1 := Lib.hid s1
  clear hwa hA k1 s1
  have hd65 : decide ((65536 : Int) < (n : Int)) = false := decide_eq_false (by omega)
  go_wp2_with fail
  go_loopw [5, 6, 7, 8] (fun s5 s6 s7 s8 w9 => ∃ q : Nat, 32 * q < n + 32 ∧ s6 = .int .i64 (q : Int) ∧ s5 = .string (str (Mc.stream k (min (32 * q) n))) ∧ Hid (Kept w1.heap.size w1.heap.size w1 w9)) (fun _ s6 _ _ _ => 70000 - (intOf s6).toNat)
  case atStart => exact ⟨0, by omega, rfl, by rw [Nat.mul_zero, Nat.zero_min, Mc.stream_zero], Lib.hid (Kept.refl _ _ _)⟩
  case round =>
    obtain ⟨q, hq, rfl, rfl, hK⟩ := hrel
    by_cases hlt : 32 * q < n
    · rw [Nat.min_eq_left (Nat.le_of_lt hlt)]
      have hsl : (Mc.stream k (32 * q)).length = 32 * q := Mc.stream_length _ _
      have hd : decide (32 * (q : Int) < (n : Int)) = true := decide_eq_true (by omega)
      have hN : wa < wr.heap.size := by have := HS1.out; have := hK.out.size; omega
      have hA9 := (hK.out.block wa (by have := HS1.out; omega) (by have := HS1.out; omega)).trans HA.out
      have hcv : ∀ w', Kept wr.heap.size wr.heap.size wr w' → (convert 38 9 (.slice (some ⟨wa, 0, none⟩) 32 32)).run Try.prog w' = .ok (.string (str k)) w' := fun w' kk =>
        conv_hash hk.out (by rw [Hkc.out]; exact (kk.block wa hN (by omega)).trans hA9)
      have hcode : ∀ W : World, Calls Try.prog 11 #[.string (str k), .string (str (Mc.four q))] W fun e w' => e = .returned (.agg (bcells (Mc.code k (Mc.four q))).toArray) ∧ Kept W.heap.size W.heap.size W w' := fun W =>
        refcode_calls (str k) (str (Mc.four q)) (Lib.hid (by rw [str_size, hk.out]; decide)) (Lib.hid (by rw [str_size, Mc.four_length]; decide)) W
      have hfour := fun w => reffour_calls q (Lib.hid (by omega)) w
      have hcs : (bcells (Mc.code k (Mc.four q))).toArray.size = 32 := by rw [List.size_toArray, bcells_length, Mc.code_length]
      have hall := bcells_all (Mc.code k (Mc.four q))
      have HCV := Lib.hid hcv
      have HCODE := Lib.hid hcode
      have H4 := Lib.hid hfour
      have Hcs := Lib.hid hcs
      have Hall := Lib.hid hall
      clear hcv hcode hfour hcs hall hA9
      go_upto_region 7 with fail
      go_cut [7] (fun s7 wx => ∃ b : Nat, s7 = .pointer (some ⟨b, 0, none⟩) ∧ wr.heap.size ≤ b ∧ Hid (wx.heap[b]? = some (.cells (bcells (Mc.code k (Mc.four q))).toArray 24 (0, 0))) ∧ Hid (Kept wr.heap.size wr.heap.size wr wx))
      case first =>
        have KD : Kept wr.heap.size wr.heap.size wr wr.drew := (Kept.refl _ _ _).drew
        generalize hcu : (bcells (Mc.code k (Mc.four q))).toArray = cu at HCODE Hcs Hall
        have Hcu := Lib.hid hcu
        clear hcu
        generalize str (Mc.four q) = s4 at HCODE H4
        generalize str k = sk at HCV HCODE
        refine wp_region_noPanic ?_
        refine wp_region_held_drew (S := fun w' => (convert 38 9 (.slice (some ⟨wa, 0, none⟩) 32 32)).run Try.prog w' = .ok (.string sk) w') (by kernel_rfl) (HCV.out _ KD) (fun hH => ?_)
        refine wpAnyH_take (i := 0) (v := .slice (some ⟨wa, 0, none⟩) 32 32) rfl (by kernel_rfl) (by kernel_rfl) (by kernel_rfl) (fun _ _ _ h => h) (.inl ⟨by rfl, fun w9 _ => by go_simp⟩) hH ?_
        simp only [Act.put, List.setIfInBounds_toArray]
        refine wpAnyH_take (i := 1) (v := .string sk) rfl (by kernel_rfl) (by kernel_rfl) (by kernel_rfl) (fun _ _ _ h => h) (.inl ⟨by rfl, fun w9 h9 => by dsimp only at h9; go_simp⟩) hH ?_
        refine wpAnyH_take (i := 2) (v := .int .i64 (q : Int)) rfl (by kernel_rfl) (by kernel_rfl) (by kernel_rfl) (fun _ _ _ h => h) (.inl ⟨by rfl, fun w9 _ => by go_simp⟩) hH ?_
        simp only [Act.put]
        refine wpAnyH_ready (rs := [3, 5]) (by kernel_rfl) (by simp) ?_
        refine AllReadyH.cons rfl (fun K hK => ?_) ?_
        · rw [if_pos (by rfl)]
          go_simp
          go_wp2_with (go_at_call 23; refine (H4.out _).mono ?_; rintro e w7 ⟨rfl, k7⟩)
          have K7 : Kept wr.heap.size wr.heap.size wr w7 := KD.trans k7
          refine hK.out _ _ (HCV.out _ K7) (fun hH => ?_)
          clear hK K
          refine wpAnyH_ready (rs := [4, 5]) (by kernel_rfl) (by simp) ?_
          refine AllReadyH.cons rfl (fun K hK => ?_) ?_
          · rw [if_pos (by rfl)]
            go_simp
            go_wp2_with (go_at_call 11; refine (HCODE.out _).mono ?_; rintro e w8 ⟨rfl, k8⟩)
            have K8 : Kept wr.heap.size wr.heap.size wr w8 := K7.trans (k8.mono K7.size (fun k hk _ => Nat.ne_of_lt (Nat.lt_of_lt_of_le hk K7.size)))
            refine hK.out _ _ (HCV.out _ K8) (fun hH => ?_)
            clear hK K
            refine wpAnyH_ready (rs := [5]) (by kernel_rfl) (by simp) ?_
            refine AllReadyH.cons rfl (fun K hK => ?_) ?_
            · rw [if_pos (by rfl)]
              go_simp
              rw [zeros32_eq]
              have K9 := K8.alloc K8.size (.cells zeros32 24)
              refine hK.out _ _ (HCV.out _ K9) (fun hH => ?_)
              clear hK K
              have hst := store_new (P := Try.prog) w8 24 zeros32 cu (by rw [Hcs.out]; rfl) Hall.out
              refine wpAnyH_ready (rs := [6]) (by kernel_rfl) (by simp) ?_
              refine AllReadyH.cons rfl (fun K hK => ?_) ?_
              · rw [if_pos (by rfl)]
                have hcs32 := Hcs.out
                go_simp
                have K10 := K8.alloc K8.size (.cells cu 24)
                refine hK.out _ _ (HCV.out _ K10) (fun hH => ?_)
                clear hK K
                refine wpAnyH_done (by kernel_rfl) ?_ _
                refine NoPanic.normal ?_
                go_wp2_with fail
                go_meet
                exact ⟨w8.heap.size, rfl, K8.size, Lib.hid (by rw [Hcu.out]; exact (heap_new w8 (.cells cu 24))), Lib.hid K10⟩
              · exact AllReadyH.nil
            · exact AllReadyH.nil
          · refine AllReadyH.cons rfl (fun K hK => ?_) AllReadyH.nil
            rw [if_pos (by rfl)]
            go_simp
            rw [zeros32_eq]
            have KZ := K7.alloc K7.size (.cells zeros32 24)
            refine hK.out _ _ (HCV.out _ KZ) (fun hH => ?_)
            clear hK K
            refine wpAnyH_ready (rs := [4]) (by kernel_rfl) (by simp) ?_
            refine AllReadyH.cons rfl (fun K hK => ?_) ?_
            · rw [if_pos (by rfl)]
              go_simp
              go_wp2_with (go_at_call 11; refine (HCODE.out _).mono ?_; rintro e w8 ⟨rfl, k8⟩)
              have K8 : Kept wr.heap.size wr.heap.size wr w8 := KZ.trans (k8.mono KZ.size (fun k hk _ => Nat.ne_of_lt (Nat.lt_of_lt_of_le hk KZ.size)))
              have hz : w8.heap[w7.heap.size]? = some (.cells zeros32 24 (0, 0)) := (k8.block w7.heap.size (by simp) (by simp)).trans (heap_new w7 _)
              refine hK.out _ _ (HCV.out _ K8) (fun hH => ?_)
              clear hK K
              refine wpAnyH_ready (rs := [6]) (by kernel_rfl) (by simp) ?_
              refine AllReadyH.cons rfl (fun K hK => ?_) ?_
              · rw [if_pos (by rfl)]
                have hcs32 := Hcs.out
                have hst := store_over (P := Try.prog) w8 (w7.heap.size) 24 zeros32 cu hz (by rw [Hcs.out]; rfl) Hall.out
                go_simp
                have K10 : Kept wr.heap.size wr.heap.size wr (w8.setRow (w7.heap.size) cu) := K8.trans ⟨rfl, rfl, rfl, by simp [World.setRow], fun k hk _ => setRow_other w8 (w7.heap.size) k cu (Nat.ne_of_lt (Nat.lt_of_lt_of_le hk K7.size))⟩
                refine hK.out _ _ (HCV.out _ K10) (fun hH => ?_)
                clear hK K
                refine wpAnyH_done (by kernel_rfl) ?_ _
                refine NoPanic.normal ?_
                go_wp2_with fail
                go_meet
                exact ⟨w7.heap.size, rfl, K7.size, Lib.hid (by rw [Hcu.out]; exact (setRow_heap w8 (w7.heap.size) zeros32 cu _ _ hz)), Lib.hid K10⟩
              · exact AllReadyH.nil
            · exact AllReadyH.nil
        · refine AllReadyH.cons rfl (fun K hK => ?_) AllReadyH.nil
          rw [if_pos (by rfl)]
          go_simp
          rw [zeros32_eq]
          have KZ : Kept wr.heap.size wr.heap.size wr (wr.alloc (.cells zeros32 24)).drew := ((Kept.refl _ _ _).alloc (Nat.le_refl _) _).drew
          refine hK.out _ _ (HCV.out _ KZ) (fun hH => ?_)
          clear hK K
          refine wpAnyH_ready (rs := [3]) (by kernel_rfl) (by simp) ?_
          refine AllReadyH.cons rfl (fun K hK => ?_) ?_
          · rw [if_pos (by rfl)]
            go_simp
            go_wp2_with (go_at_call 23; refine (H4.out _).mono ?_; rintro e w7 ⟨rfl, k7⟩)
            have K7 : Kept wr.heap.size wr.heap.size wr w7 := KZ.trans (k7.mono KZ.size (fun k hk _ => Nat.ne_of_lt (Nat.lt_of_lt_of_le hk KZ.size)))
            have hs1 : (wr.alloc (.cells zeros32 24)).drew.heap.size = wr.heap.size + 1 := by show (wr.alloc (.cells zeros32 24)).heap.size = _; simp
            have hz7 : w7.heap[wr.heap.size]? = some (.cells zeros32 24 (0, 0)) := (k7.block wr.heap.size (by rw [hs1]; exact Nat.lt_succ_self _) (by rw [hs1]; exact Nat.ne_of_lt (Nat.lt_succ_self _))).trans (heap_new wr _)
            have hw7 : wr.heap.size < w7.heap.size := by have := k7.size; rw [hs1] at this; exact this
            refine hK.out _ _ (HCV.out _ K7) (fun hH => ?_)
            clear hK K
            refine wpAnyH_ready (rs := [4]) (by kernel_rfl) (by simp) ?_
            refine AllReadyH.cons rfl (fun K hK => ?_) ?_
            · rw [if_pos (by rfl)]
              go_simp
              go_wp2_with (go_at_call 11; refine (HCODE.out _).mono ?_; rintro e w8 ⟨rfl, k8⟩)
              have K8 : Kept wr.heap.size wr.heap.size wr w8 := K7.trans (k8.mono K7.size (fun k hk _ => Nat.ne_of_lt (Nat.lt_of_lt_of_le hk K7.size)))
              have hz : w8.heap[wr.heap.size]? = some (.cells zeros32 24 (0, 0)) := (k8.block wr.heap.size hw7 (Nat.ne_of_lt hw7)).trans hz7
              refine hK.out _ _ (HCV.out _ K8) (fun hH => ?_)
              clear hK K
              refine wpAnyH_ready (rs := [6]) (by kernel_rfl) (by simp) ?_
              refine AllReadyH.cons rfl (fun K hK => ?_) ?_
              · rw [if_pos (by rfl)]
                have hcs32 := Hcs.out
                have hst := store_over (P := Try.prog) w8 (wr.heap.size) 24 zeros32 cu hz (by rw [Hcs.out]; rfl) Hall.out
                go_simp
                have K10 : Kept wr.heap.size wr.heap.size wr (w8.setRow (wr.heap.size) cu) := K8.trans ⟨rfl, rfl, rfl, by simp [World.setRow], fun k hk _ => setRow_other w8 (wr.heap.size) k cu (Nat.ne_of_lt (Nat.lt_of_lt_of_le hk (Nat.le_refl _)))⟩
                refine hK.out _ _ (HCV.out _ K10) (fun hH => ?_)
                clear hK K
                refine wpAnyH_done (by kernel_rfl) ?_ _
                refine NoPanic.normal ?_
                go_wp2_with fail
                go_meet
                exact ⟨wr.heap.size, rfl, (Nat.le_refl _), Lib.hid (by rw [Hcu.out]; exact (setRow_heap w8 (wr.heap.size) zeros32 cu _ _ hz)), Lib.hid K10⟩
              · exact AllReadyH.nil
            · exact AllReadyH.nil
          · exact AllReadyH.nil
      case rest =>
        obtain ⟨b, rfl, hb, HBW, HKW⟩ := hcut
        have hc32 := Mc.code_length k (Mc.four q)
        have hbl := lt_of_block HBW.out
        have hKc : Kept w1.heap.size w1.heap.size w1 wc := by
          have := hK.out.size
          exact hK.out.trans (HKW.out.mono (by omega) (fun k hk _ => by omega))
        have HKc := Lib.hid hKc
        have Hbl := Lib.hid hbl
        have Hc32 := Lib.hid hc32
        clear hKc hbl hc32 hK HKW hsl
        go_wp2_with fail
        go_loopw [5, 8] (fun s5 s8 w9 => ∃ j : Nat, j ≤ 32 ∧ 32 * q + j ≤ n ∧ s8 = .int .i64 (j : Int) ∧ s5 = .string (str (Mc.stream k (32 * q + j))) ∧ Hid (Kept wc.heap.size wc.heap.size wc w9)) (fun _ s8 _ => 32 - (intOf s8).toNat)
        case atStart => exact ⟨0, by omega, by omega, rfl, rfl, Lib.hid (Kept.refl _ _ _)⟩
        case round =>
          obtain ⟨j, hj, hjn, rfl, rfl, hK2⟩ := hrel
          have hsl2 : (Mc.stream k (32 * q + j)).length = 32 * q + j := Mc.stream_length _ _
          by_cases hj32 : j < 32
          · have hd1 : decide ((j : Int) < 32) = true := decide_eq_true (by omega)
            by_cases hjn2 : 32 * q + j < n
            · have hd2 : decide (32 * (q : Int) + (j : Int) < (n : Int)) = true := decide_eq_true (by omega)
              obtain ⟨c, hc⟩ : ∃ c, (Mc.code k (Mc.four q))[j]? = some c := ⟨_, List.getElem?_eq_getElem (by rw [Hc32.out]; omega)⟩
              have hm := stream_more k q j hj32 c hc
              have hcell := bcell_at ((hK2.out.block b Hbl.out (by have := Hbl.out; omega)).trans HBW.out) hc
              have k10 := hK2.out.alloc hK2.out.size (.cells #[.int .u8 (c.toNat : Int)] 5)
              have Hm := Lib.hid hm
              have HK10 := Lib.hid k10
              have hj0 : ¬ (j : Int) < 0 := by omega
              clear hm k10 hc
              go_wp2_with fail
              rw [conv_byte _ c]
              go_wp2
              exact ⟨⟨j + 1, by omega, by omega, by rw [Int.natCast_add]; rfl, by rw [Hm.out, ← str_append], HK10⟩, by simp only [intOf]; omega⟩
            · have hd2 : decide (32 * (q : Int) + (j : Int) < (n : Int)) = false := decide_eq_false (by omega)
              have hKo : Kept w1.heap.size w1.heap.size w1 wr := by
                have := HKc.out.size
                exact HKc.out.trans (hK2.out.mono (by omega) (fun k hk _ => by omega))
              have HKo := Lib.hid hKo
              clear hKo
              go_wp2_with fail
              exact ⟨⟨q + 1, by omega, by rw [Int.natCast_add]; rfl, by rw [show min (32 * (q + 1)) n = 32 * q + j by omega], HKo⟩, by simp only [intOf]; omega⟩
          · have hd1 : decide ((j : Int) < 32) = false := decide_eq_false (by omega)
            have hKo : Kept w1.heap.size w1.heap.size w1 wr := by
              have := HKc.out.size
              exact HKc.out.trans (hK2.out.mono (by omega) (fun k hk _ => by omega))
            have HKo := Lib.hid hKo
            clear hKo
            go_wp2_with fail
            exact ⟨⟨q + 1, by omega, by rw [Int.natCast_add]; rfl, by rw [show min (32 * (q + 1)) n = 32 * q + j by omega], HKo⟩, by simp only [intOf]; omega⟩
    · have hd : decide (32 * (q : Int) < (n : Int)) = false := decide_eq_false (by omega)
      rw [Nat.min_eq_right (by omega)]
      have hsl : (Mc.stream k n).length = n := Mc.stream_length _ _
      have hdn : decide ((n : Int) < (n : Int)) = false := decide_eq_false (by omega)
      go_wp2
      go_ret
      refine ⟨rfl, ?_⟩
      have e1 := HWA.out
      have e2 := HS1.out
      rw [← e1]
      exact HK1.out.trans (hK.out.mono (by omega) (fun k hk _ => by omega))

end Go.Proofs.Ytdhebdahfnilkaa
