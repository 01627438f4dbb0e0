/-
  The landed row of bytes.
-/
import Derived.Test.YtdhebdahfnilkaaMacDerive
import Derived.Deep.RegionHeld3
import Derived.Deep.DeepCutAuto
namespace Go.Proofs.Ytdhebdahfnilkaa
open Go.RowKit

/-- An empty row of bytes with room. -/
theorem make_bytes (w : World) (c : Nat) (hc : c < 2147483648) : ∃ w', (Instr.makeSlice 38 (.int .i64 0) (.int .i64 (c : Int))).run Try.prog w = .ok (.slice (some ⟨w.heap.size, 0, none⟩) 0 c) w' ∧
    w'.ownsRow w.heap.size 5 1 (.slice (some ⟨w.heap.size, 0, none⟩) 0 c) 0 [] ∧ w.grownBy w' none := by
  obtain ⟨i, hi, hz, hs, hb⟩ := sha_u8
  exact run_make_own (P := Try.prog) w w.heap.size 38 5 i (.int .u8 0) 1 Try.underlying38 hi hz hs .i64 .i64 c (by rw [hb]; omega) (by unfold maxLen; omega) (Nat.le_refl _)
/-- Bytes of a block put behind those of a row of one's own. -/
theorem append_bytes (w : World) (base : Nat) (v : Value) (l : List UInt8) (hown : w.ownsRow base 5 1 v l.length (bcells l)) (hbase : base ≤ w.heap.size) (b c : Nat) (m : List UInt8) {t : TypeId} {fr : Nat × Nat} (hb : w.heap[b]? = some (.cells (bcells m).toArray t fr)) (hl : l.length + m.length < 2147483648) :
    ∃ v' w', (Builtin.append_ #[38, 38] 38 #[v, .slice (some ⟨b, 0, none⟩) m.length c]).run Try.prog w = .ok v' w' ∧ w'.ownsRow base 5 1 v' (l ++ m).length (bcells (l ++ m)) ∧ w.grownBy w' v.ownBlock := by
  obtain ⟨i, hi, hz, hs, hby⟩ := sha_u8
  obtain ⟨v', w', h1, h2, h3, _⟩ := run_append_own (P := Try.prog) w base 38 38 5 i (.int .u8 0) 1 1 Try.underlying38 hi hz hs hby rfl (by decide) v l.length (bcells l) hown ⟨b, 0, none⟩ m.length c (bcells m)
    (by rw [bcells_length]; omega) (fun j u hu => by
      rw [Addr.add_lit, Nat.zero_add]
      simp [World.cell?, hb, hu])
    (bcells_one m) (by unfold maxLen; omega) (by omega) hbase
  rw [← bcells_append, ← List.length_append] at h2
  exact ⟨v', w', h1, h2, h3⟩
/-- What a row of bytes of one's own is. -/
theorem owns_bytes {w : World} {base : Nat} {v : Value} {l : List UInt8} (h : w.ownsRow base 5 1 v l.length (bcells l)) (hn : 0 < l.length) :
    ∃ g cap, v = .slice (some ⟨g, 0, none⟩) l.length cap ∧ base ≤ g ∧ g < w.heap.size ∧ l.length ≤ cap ∧ ∀ j (hj : j < l.length), w.cell? ⟨g, 0 + j, none⟩ = some (.int .u8 ((l[j]).toNat : Int)) := by
  have hlt := h.lt
  have h0 := h
  rcases h.2 with ⟨_, h1⟩ | ⟨g, cap, cur, rfl, hb, _, hc, _⟩
  · omega
  · refine ⟨g, cap, rfl, hb, (hlt g rfl).2, hc, fun j hj => ?_⟩
    have := h0.cells (g := g) rfl j _ (bcells_get l j hj)
    rwa [Addr.add_lit] at this

set_option maxRecDepth 100000 in
set_option maxHeartbeats 1600000 in
theorem stream_none (k : List UInt8) (n : Int) (h : n < 1 ∨ decide ((65536 : Int) < n) = true) (w : World) : Calls Try.prog 16 #[.agg (bcells k).toArray, .int .i64 n] w fun e w' => e = .returned (.string ⟨#[]⟩) ∧ Kept w.heap.size w.heap.size w w' := by
  generalize (bcells k).toArray = kc
  go_enter Try.func16, Try.ntmps16
  by_cases h1 : n < 1
  · have hd : decide (n < 1) = true := decide_eq_true h1
    go_wp2
    go_ret
    exact ⟨rfl, (Kept.refl _ _ _).alloc (Nat.le_refl _) _⟩
  · have hd : decide (n < 1) = false := decide_eq_false h1
    have hd2 := h.resolve_left h1
    clear h
    go_wp2
    go_ret
    exact ⟨rfl, (Kept.refl _ _ _).alloc (Nat.le_refl _) _⟩

set_option maxRecDepth 100000 in
set_option maxHeartbeats 1600000 in
theorem stream_calls (k : List UInt8) (hk : Hid (k.length = 32)) (n : Nat) (h1 : Hid (1 ≤ n)) (h2 : Hid (n ≤ 65536)) (w : World) : Calls Try.prog 16 #[.agg (bcells k).toArray, .int .i64 (n : Int)] w fun e w' => e = .returned (.string (str (Mc.stream k n))) ∧ Kept w.heap.size w.heap.size w w' := by
  generalize hkc : (bcells k).toArray = kc
  have Hkc := Lib.hid hkc
  clear hkc
  have hd1 : decide ((n : Int) < 1) = false := decide_eq_false (by have := h1.out; omega)
  have hd2 : decide ((65536 : Int) < (n : Int)) = false := decide_eq_false (by have := h2.out; omega)
  go_enter Try.func16, Try.ntmps16
  go_upto_region 3 with fail
  have hA : (w.alloc (.cells kc 25)).heap[w.heap.size]? = some (.cells kc 25 (0, 0)) := heap_new _ _
  have k1 : Kept w.heap.size w.heap.size w (w.alloc (.cells kc 25)) := (Kept.refl _ _ _).alloc (Nat.le_refl _) _
  have s1 : (w.alloc (.cells kc 25)).heap.size = w.heap.size + 1 := by simp
  generalize w.alloc (.cells kc 25) = w1 at hA k1 s1 ⊢
  obtain ⟨wa, hwa⟩ : ∃ wa, wa = w.heap.size := ⟨_, rfl⟩
  rw [← hwa] at hA k1 s1 ⊢
  have hcv := conv_hash hk.out (by rw [Hkc.out]; exact hA)
  have hp := pad_calls (str k) (Lib.hid (by rw [str_size, hk.out]; decide)) w1
  have HFL : Hid ((Mc.filled k).length = 64) := Lib.hid (Mc.filled_length _)
  rw [str_data] at hp
  generalize hF : Mc.filled k = F at hp HFL
  have hpl : (bcells (padOf F)).toArray.size = 128 := by rw [List.size_toArray, bcells_length, padOf_length F HFL.out]
  have hpa := bcells_all (padOf F)
  generalize hpp : bcells (padOf F) = pl at hp hpl hpa
  have HPP := Lib.hid hpp
  clear hpp
  have HWA := Lib.hid hwa
  have HF := Lib.hid hF
  have HP := Lib.hid hp
  have HCV := Lib.hid hcv
  have HK1 := Lib.hid k1
  have HS1 := Lib.hid s1
  have HPL := Lib.hid hpl
  have HPA := Lib.hid hpa
  clear hwa hA k1 s1 hcv hp hF hpl hpa
  go_wp2_with fail
  rw [HCV.out]
  go_wp2_with fail
  refine HP.out.mono ?_
  rintro e w2 ⟨rfl, k2⟩
  go_wp2_with fail
  generalize hr : Result.andThen _ _ = r
  have hr2 : r = .ok (.value (.pointer (some ⟨w2.heap.size, 0, none⟩))) (w2.alloc (.cells padNil 45)) := by
    rw [← hr]
    kernel_rfl
  rw [hr2]
  clear hr hr2 r
  have hst := store_new (P := Try.prog) w2 45 padNil pl.toArray (by rw [HPL.out]; rfl) HPA.out
  have Hst := Lib.hid hst
  clear hst
  go_wp2_with fail
  rw [Hst.out]
  have hB : (w2.alloc (.cells pl.toArray 45)).heap[w2.heap.size]? = some (.cells pl.toArray 45 (0, 0)) := heap_new _ _
  have s3 : (w2.alloc (.cells pl.toArray 45)).heap.size = w2.heap.size + 1 := by simp
  have k3 : Kept w.heap.size w.heap.size w (w2.alloc (.cells pl.toArray 45)) := by
    have e1 := HWA.out
    have e2 := HS1.out
    have e3 := k2.size
    rw [← e1]
    exact (HK1.out.trans (k2.mono (by omega) (fun k hk _ => by omega))).alloc (by omega) _
  generalize w2.alloc (.cells pl.toArray 45) = w3 at hB s3 k3 ⊢
  obtain ⟨wp, hwp⟩ : ∃ wp, wp = w2.heap.size := ⟨_, rfl⟩
  rw [← hwp] at hB s3 ⊢
  obtain ⟨w4, hm, ho, hg⟩ := make_bytes w3 (n + 32) (by have := h2.out; omega)
  have k4 : Kept w3.heap.size w3.heap.size w3 w4 := (Kept.refl _ _ _).grown hg (Nat.le_refl _) (fun k h => by cases h)
  have Hm := Lib.hid hm
  have HB := Lib.hid hB
  have HS3 := Lib.hid s3
  have HK3 := Lib.hid k3
  have HK4 := Lib.hid k4
  have HO := Lib.hid ho
  clear hm hB s3 k3 k4 ho hg Hst k2 hwp
  go_wp2_with fail
  rw [show wrap64 ((n : Int) + 32) = ((n + 32 : Nat) : Int) by have := h2.out; unfold wrap64; omega, Hm.out]
  go_wp2_with fail
  go_loopw [6, 7, 8] (fun s6 s7 s8 w9 => ∃ q : Nat, ∃ g cap : Nat, 32 * q < n + 32 ∧ s7 = .int .i64 (q : Int) ∧ s6 = .slice (some ⟨g, 0, none⟩) (32 * q) cap ∧ w3.heap.size ≤ g ∧ Hid (w9.ownsRow w3.heap.size 5 1 (.slice (some ⟨g, 0, none⟩) (32 * q) cap) (Mc.row k q).length (bcells (Mc.row k q))) ∧ Hid (Kept w3.heap.size w3.heap.size w3 w9)) (fun _ s7 _ _ => 70000 - (intOf s7).toNat)
  case atStart => exact ⟨0, w3.heap.size, n + 32, by omega, rfl, rfl, Nat.le_refl _, HO, HK4⟩
  case round =>
    obtain ⟨q, g, cap, hq, rfl, rfl, hg, hO, hK⟩ := hrel
    have hrl := Mc.row_length k q
    by_cases hlt : 32 * q < n
    · have hd : decide (32 * (q : Int) < (n : Int)) = true := decide_eq_true (by omega)
      have h65 := h2.out
      have hB9 := (hK.out.block wp (by have := HS3.out; omega) (by have := HS3.out; omega)).trans HB.out
      have hN : wp < wr.heap.size := by have := HS3.out; have := hK.out.size; omega
      have hrng : ∀ w', Kept wr.heap.size wr.heap.size wr w' → w'.rangeAt wp 0 pl := fun w' kk => by
        have h := World.rangeAt_of_block ((kk.block wp hN (by omega)).trans hB9) 0 128
        rw [show (pl.toArray.extract 0 (0 + 128)).toList = pl by
          have e : pl.length = 128 := by rw [← HPP.out, bcells_length, padOf_length F HFL.out]
          rw [Array.toList_extract, List.extract_eq_take_drop, List.drop_zero]
          exact List.take_of_length_le (by show pl.length ≤ _; omega)] at h
        exact h
      have hcode : ∀ (W : World) (B : Nat), B < W.heap.size → W.cell? ⟨B, 0, none⟩ = some (.string (str (Mc.four q))) → Calls Try.prog 20 #[.agg pl.toArray, .slice (some ⟨B, 0, none⟩) 1 1] W fun e w' => e = .returned (.agg (bcells (Mc.code k (Mc.four q))).toArray) ∧ Kept W.heap.size W.heap.size W w' := fun W B hBW hcW => by
        have hj : joined [str (Mc.four q)] [str (Mc.four q)].length = Mc.four q := by simp [joined]
        have := under_calls F HFL [str (Mc.four q)] (some ⟨B, 0, none⟩) 1 B 0 W (Lib.hid (by show 1 < _; decide)) (Lib.hid (by rw [hj, Mc.four_length]; decide)) (Lib.hid fun h => by cases h) (fun j hj => by
          obtain rfl : j = 0 := by simp at hj; omega
          exact ⟨rfl, hBW, hcW⟩)
        rw [hj, HPP.out] at this
        rw [Mc.code, HF.out]
        exact this
      have hfour := fun w => four_calls q w
      have hcs : (bcells (Mc.code k (Mc.four q))).toArray.size = 32 := by rw [List.size_toArray, bcells_length, Mc.code_length]
      have hall := bcells_all (Mc.code k (Mc.four q))
      have HRNG := Lib.hid hrng
      have HCODE := Lib.hid hcode
      have H4 := Lib.hid hfour
      have Hcs := Lib.hid hcs
      have Hall := Lib.hid hall
      have Hrl := Lib.hid hrl
      clear hrng hcode hfour hcs hall hB9 hrl
      go_upto_region 8 with fail
      go_cut [8] (fun s8 wx => ∃ b : Nat, s8 = .pointer (some ⟨b, 0, none⟩) ∧ wr.heap.size ≤ b ∧ Hid (wx.heap[b]? = some (.cells (bcells (Mc.code k (Mc.four q))).toArray 25 (0, 0))) ∧ Hid (Kept wr.heap.size wr.heap.size wr wx))
      case first =>
        have hpi : (Try.prog.info? 45).map (·.size) = some pl.length := by rw [padInfo, ← HPP.out, bcells_length, padOf_length F HFL.out]
        have KD : Kept wr.heap.size wr.heap.size wr wr.drew := (Kept.refl _ _ _).drew
        generalize hcu : (bcells (Mc.code k (Mc.four q))).toArray = cu at HCODE Hcs Hall
        have Hcu := Lib.hid hcu
        clear hcu
        generalize str (Mc.four q) = s4 at HCODE H4
        refine wp_region_noPanic ?_
        refine wp_region_held_drew (S := fun w' => w'.rangeAt wp 0 pl) (by kernel_rfl) (HRNG.out _ KD) (fun hH => ?_)
        refine wpAnyH_take (i := 1) (v := .int .i64 (q : Int)) rfl (by kernel_rfl) (by kernel_rfl) (by kernel_rfl) (fun _ _ _ h => h) (.inl ⟨by rfl, fun w9 _ => by go_simp⟩) hH ?_
        refine wpAnyH_take (i := 0) (v := .agg pl.toArray) rfl (by kernel_rfl) (by kernel_rfl) (by kernel_rfl) (fun _ _ _ h => h) (yieldsIf_load_mid (by rfl) 45 _ rfl wp 0 rfl pl _ (fun _ h => h) Try.underlying45 rfl hpi) hH ?_
        simp only [Act.put, List.setIfInBounds_toArray]
        refine wpAnyH_ready (rs := [2, 5]) (by kernel_rfl) (by simp) ?_
        refine AllReadyH.cons rfl (fun K hK => ?_) ?_
        · rw [if_pos (by rfl)]
          go_simp
          go_wp2_with (go_at_call 22; refine (H4.out _).mono ?_; rintro e w7 ⟨rfl, k7⟩)
          have K7 : Kept wr.heap.size wr.heap.size wr w7 := KD.trans k7
          refine hK.out _ _ (HRNG.out _ K7) (fun hH => ?_)
          clear hK K
          refine wpAnyH_ready (rs := [3, 5]) (by kernel_rfl) (by simp) ?_
          refine AllReadyH.cons rfl (fun K hK => ?_) ?_
          · rw [if_pos (by rfl)]
            go_simp
            have KB := K7.alloc K7.size (.cells #[.string s4] 9)
            refine hK.out _ _ (HRNG.out _ KB) (fun hH => ?_)
            clear hK K
            refine wpAnyH_ready (rs := [4, 5]) (by kernel_rfl) (by simp) ?_
            refine AllReadyH.cons rfl (fun K hK => ?_) ?_
            · rw [if_pos (by rfl)]
              go_simp
              go_wp2_with (go_at_call 20; refine (HCODE.out (w7.alloc (.cells #[.string s4] 9)) w7.heap.size (by simp) (World.cell?_alloc_new w7 _ _ 0)).mono ?_; rintro e w8 ⟨rfl, k8⟩)
              have K8 : Kept wr.heap.size wr.heap.size wr w8 := KB.trans (k8.mono KB.size (fun k hk _ => Nat.ne_of_lt (Nat.lt_of_lt_of_le hk KB.size)))
              refine hK.out _ _ (HRNG.out _ K8) (fun hH => ?_)
              clear hK K
              refine wpAnyH_ready (rs := [5]) (by kernel_rfl) (by simp) ?_
              refine AllReadyH.cons rfl (fun K hK => ?_) ?_
              · rw [if_pos (by rfl)]
                go_simp
                rw [zeros32_eq]
                have K9 := K8.alloc K8.size (.cells zeros32 25)
                refine hK.out _ _ (HRNG.out _ K9) (fun hH => ?_)
                clear hK K
                have hst := store_new (P := Try.prog) w8 25 zeros32 cu (by rw [Hcs.out]; rfl) Hall.out
                refine wpAnyH_ready (rs := [6]) (by kernel_rfl) (by simp) ?_
                refine AllReadyH.cons rfl (fun K hK => ?_) ?_
                · rw [if_pos (by rfl)]
                  have hcs32 := Hcs.out
                  go_simp
                  have K10 := K8.alloc K8.size (.cells cu 25)
                  refine hK.out _ _ (HRNG.out _ K10) (fun hH => ?_)
                  clear hK K
                  refine wpAnyH_done (by kernel_rfl) ?_ _
                  refine NoPanic.normal ?_
                  go_wp2_with fail
                  go_meet
                  exact ⟨w8.heap.size, rfl, K8.size, Lib.hid (by rw [Hcu.out]; exact (heap_new w8 (.cells cu 25))), Lib.hid K10⟩
                · exact AllReadyH.nil
              · exact AllReadyH.nil
            · refine AllReadyH.cons rfl (fun K hK => ?_) AllReadyH.nil
              rw [if_pos (by rfl)]
              go_simp
              rw [zeros32_eq]
              have KZ := KB.alloc KB.size (.cells zeros32 25)
              refine hK.out _ _ (HRNG.out _ KZ) (fun hH => ?_)
              clear hK K
              refine wpAnyH_ready (rs := [4]) (by kernel_rfl) (by simp) ?_
              refine AllReadyH.cons rfl (fun K hK => ?_) ?_
              · rw [if_pos (by rfl)]
                go_simp
                have hcell : ((w7.alloc (.cells #[.string s4] 9)).alloc (.cells zeros32 25)).cell? ⟨w7.heap.size, 0, none⟩ = some (.string s4) := (Kept.cell ((Kept.refl (w7.alloc (.cells #[.string s4] 9)).heap.size (w7.alloc (.cells #[.string s4] 9)).heap.size _).alloc (Nat.le_refl _) (.cells zeros32 25)) (p := ⟨w7.heap.size, 0, none⟩) (by simp) (by simp)).trans (World.cell?_alloc_new w7 _ _ 0)
                go_wp2_with (go_at_call 20; refine (HCODE.out ((w7.alloc (.cells #[.string s4] 9)).alloc (.cells zeros32 25)) (w7.heap.size) (by simp; omega) hcell).mono ?_; rintro e w8 ⟨rfl, k8⟩)
                have K8 : Kept wr.heap.size wr.heap.size wr w8 := KZ.trans (k8.mono KZ.size (fun k hk _ => Nat.ne_of_lt (Nat.lt_of_lt_of_le hk KZ.size)))
                have hz : w8.heap[w7.heap.size + 1]? = some (.cells zeros32 25 (0, 0)) := (k8.block (w7.heap.size + 1) (by simp) (by simp)).trans (heap_alloc2_last w7 _ _)
                refine hK.out _ _ (HRNG.out _ K8) (fun hH => ?_)
                clear hK K
                refine wpAnyH_ready (rs := [6]) (by kernel_rfl) (by simp) ?_
                refine AllReadyH.cons rfl (fun K hK => ?_) ?_
                · rw [if_pos (by rfl)]
                  have hcs32 := Hcs.out
                  have hst := store_over (P := Try.prog) w8 (w7.heap.size + 1) 25 zeros32 cu hz (by rw [Hcs.out]; rfl) Hall.out
                  go_simp
                  have K10 : Kept wr.heap.size wr.heap.size wr (w8.setRow (w7.heap.size + 1) cu) := K8.trans ⟨rfl, rfl, rfl, by simp [World.setRow], fun k hk _ => setRow_other w8 (w7.heap.size + 1) k cu (Nat.ne_of_lt (Nat.lt_of_lt_of_le hk (Nat.le_succ_of_le K7.size)))⟩
                  refine hK.out _ _ (HRNG.out _ K10) (fun hH => ?_)
                  clear hK K
                  refine wpAnyH_done (by kernel_rfl) ?_ _
                  refine NoPanic.normal ?_
                  go_wp2_with fail
                  go_meet
                  exact ⟨w7.heap.size + 1, rfl, (Nat.le_succ_of_le K7.size), Lib.hid (by rw [Hcu.out]; exact (setRow_heap w8 (w7.heap.size + 1) zeros32 cu _ _ hz)), Lib.hid K10⟩
                · exact AllReadyH.nil
              · exact AllReadyH.nil
          · refine AllReadyH.cons rfl (fun K hK => ?_) AllReadyH.nil
            rw [if_pos (by rfl)]
            go_simp
            rw [zeros32_eq]
            have KZ := K7.alloc K7.size (.cells zeros32 25)
            refine hK.out _ _ (HRNG.out _ KZ) (fun hH => ?_)
            clear hK K
            refine wpAnyH_ready (rs := [3]) (by kernel_rfl) (by simp) ?_
            refine AllReadyH.cons rfl (fun K hK => ?_) ?_
            · rw [if_pos (by rfl)]
              go_simp
              have KB := KZ.alloc KZ.size (.cells #[.string s4] 9)
              refine hK.out _ _ (HRNG.out _ KB) (fun hH => ?_)
              clear hK K
              refine wpAnyH_ready (rs := [4]) (by kernel_rfl) (by simp) ?_
              refine AllReadyH.cons rfl (fun K hK => ?_) ?_
              · rw [if_pos (by rfl)]
                go_simp
                have hcell : ((w7.alloc (.cells zeros32 25)).alloc (.cells #[.string s4] 9)).cell? ⟨w7.heap.size + 1, 0, none⟩ = some (.string s4) := by have := World.cell?_alloc_new (w7.alloc (.cells zeros32 25)) #[.string s4] 9 0; rwa [show (w7.alloc (.cells zeros32 25)).heap.size = w7.heap.size + 1 by simp] at this
                go_wp2_with (go_at_call 20; refine (HCODE.out ((w7.alloc (.cells zeros32 25)).alloc (.cells #[.string s4] 9)) (w7.heap.size + 1) (by simp) hcell).mono ?_; rintro e w8 ⟨rfl, k8⟩)
                have K8 : Kept wr.heap.size wr.heap.size wr w8 := KB.trans (k8.mono KB.size (fun k hk _ => Nat.ne_of_lt (Nat.lt_of_lt_of_le hk KB.size)))
                have hz : w8.heap[w7.heap.size]? = some (.cells zeros32 25 (0, 0)) := (k8.block w7.heap.size (by simp; omega) (by simp; omega)).trans (heap_alloc2_old w7 _ _)
                refine hK.out _ _ (HRNG.out _ K8) (fun hH => ?_)
                clear hK K
                refine wpAnyH_ready (rs := [6]) (by kernel_rfl) (by simp) ?_
                refine AllReadyH.cons rfl (fun K hK => ?_) ?_
                · rw [if_pos (by rfl)]
                  have hcs32 := Hcs.out
                  have hst := store_over (P := Try.prog) w8 (w7.heap.size) 25 zeros32 cu hz (by rw [Hcs.out]; rfl) Hall.out
                  go_simp
                  have K10 : Kept wr.heap.size wr.heap.size wr (w8.setRow (w7.heap.size) cu) := K8.trans ⟨rfl, rfl, rfl, by simp [World.setRow], fun k hk _ => setRow_other w8 (w7.heap.size) k cu (Nat.ne_of_lt (Nat.lt_of_lt_of_le hk K7.size))⟩
                  refine hK.out _ _ (HRNG.out _ K10) (fun hH => ?_)
                  clear hK K
                  refine wpAnyH_done (by kernel_rfl) ?_ _
                  refine NoPanic.normal ?_
                  go_wp2_with fail
                  go_meet
                  exact ⟨w7.heap.size, rfl, K7.size, Lib.hid (by rw [Hcu.out]; exact (setRow_heap w8 (w7.heap.size) zeros32 cu _ _ hz)), Lib.hid K10⟩
                · exact AllReadyH.nil
              · exact AllReadyH.nil
            · exact AllReadyH.nil
        · refine AllReadyH.cons rfl (fun K hK => ?_) AllReadyH.nil
          rw [if_pos (by rfl)]
          go_simp
          rw [zeros32_eq]
          have KZ : Kept wr.heap.size wr.heap.size wr (wr.alloc (.cells zeros32 25)).drew := ((Kept.refl _ _ _).alloc (Nat.le_refl _) _).drew
          refine hK.out _ _ (HRNG.out _ KZ) (fun hH => ?_)
          clear hK K
          refine wpAnyH_ready (rs := [2]) (by kernel_rfl) (by simp) ?_
          refine AllReadyH.cons rfl (fun K hK => ?_) ?_
          · rw [if_pos (by rfl)]
            go_simp
            go_wp2_with (go_at_call 22; refine (H4.out _).mono ?_; rintro e w7 ⟨rfl, k7⟩)
            have K7 : Kept wr.heap.size wr.heap.size wr w7 := KZ.trans (k7.mono KZ.size (fun k hk _ => Nat.ne_of_lt (Nat.lt_of_lt_of_le hk KZ.size)))
            have hs1 : (wr.alloc (.cells zeros32 25)).drew.heap.size = wr.heap.size + 1 := by show (wr.alloc (.cells zeros32 25)).heap.size = _; simp
            have hz7 : w7.heap[wr.heap.size]? = some (.cells zeros32 25 (0, 0)) := (k7.block wr.heap.size (by rw [hs1]; exact Nat.lt_succ_self _) (by rw [hs1]; exact Nat.ne_of_lt (Nat.lt_succ_self _))).trans (heap_new wr _)
            have hw7 : wr.heap.size < w7.heap.size := by have := k7.size; rw [hs1] at this; exact this
            refine hK.out _ _ (HRNG.out _ K7) (fun hH => ?_)
            clear hK K
            refine wpAnyH_ready (rs := [3]) (by kernel_rfl) (by simp) ?_
            refine AllReadyH.cons rfl (fun K hK => ?_) ?_
            · rw [if_pos (by rfl)]
              go_simp
              have KB := K7.alloc K7.size (.cells #[.string s4] 9)
              refine hK.out _ _ (HRNG.out _ KB) (fun hH => ?_)
              clear hK K
              refine wpAnyH_ready (rs := [4]) (by kernel_rfl) (by simp) ?_
              refine AllReadyH.cons rfl (fun K hK => ?_) ?_
              · rw [if_pos (by rfl)]
                go_simp
                have hcell : (w7.alloc (.cells #[.string s4] 9)).cell? ⟨w7.heap.size, 0, none⟩ = some (.string s4) := World.cell?_alloc_new w7 _ _ 0
                go_wp2_with (go_at_call 20; refine (HCODE.out (w7.alloc (.cells #[.string s4] 9)) (w7.heap.size) (by simp) hcell).mono ?_; rintro e w8 ⟨rfl, k8⟩)
                have K8 : Kept wr.heap.size wr.heap.size wr w8 := KB.trans (k8.mono KB.size (fun k hk _ => Nat.ne_of_lt (Nat.lt_of_lt_of_le hk KB.size)))
                have hz : w8.heap[wr.heap.size]? = some (.cells zeros32 25 (0, 0)) := (k8.block wr.heap.size (by simp; omega) (by simp; omega)).trans ((Below.heap_alloc _ _ _ hw7).trans hz7)
                refine hK.out _ _ (HRNG.out _ K8) (fun hH => ?_)
                clear hK K
                refine wpAnyH_ready (rs := [6]) (by kernel_rfl) (by simp) ?_
                refine AllReadyH.cons rfl (fun K hK => ?_) ?_
                · rw [if_pos (by rfl)]
                  have hcs32 := Hcs.out
                  have hst := store_over (P := Try.prog) w8 (wr.heap.size) 25 zeros32 cu hz (by rw [Hcs.out]; rfl) Hall.out
                  go_simp
                  have K10 : Kept wr.heap.size wr.heap.size wr (w8.setRow (wr.heap.size) cu) := K8.trans ⟨rfl, rfl, rfl, by simp [World.setRow], fun k hk _ => setRow_other w8 (wr.heap.size) k cu (Nat.ne_of_lt (Nat.lt_of_lt_of_le hk (Nat.le_refl _)))⟩
                  refine hK.out _ _ (HRNG.out _ K10) (fun hH => ?_)
                  clear hK K
                  refine wpAnyH_done (by kernel_rfl) ?_ _
                  refine NoPanic.normal ?_
                  go_wp2_with fail
                  go_meet
                  exact ⟨wr.heap.size, rfl, (Nat.le_refl _), Lib.hid (by rw [Hcu.out]; exact (setRow_heap w8 (wr.heap.size) zeros32 cu _ _ hz)), Lib.hid K10⟩
                · exact AllReadyH.nil
              · exact AllReadyH.nil
            · exact AllReadyH.nil
          · exact AllReadyH.nil
      case rest =>
        obtain ⟨b, rfl, hb, HBW, HKW⟩ := hcut
        have hgw : wr.grownBy wc none := ⟨HKW.out.os, HKW.out.tape, HKW.out.output, HKW.out.size, fun k hk _ => HKW.out.block k hk (by omega)⟩
        have hO2 := hO.out.kept hgw (.inr (by simp [Value.ownBlock]))
        have hKc : Kept w3.heap.size w3.heap.size w3 wc := by
          have := hK.out.size
          exact hK.out.trans (HKW.out.mono (by omega) (fun k hk _ => by omega))
        obtain ⟨v', w9, hr9, ho9, hg9⟩ := append_bytes wc w3.heap.size (.slice (some ⟨g, 0, none⟩) (32 * q) cap) (Mc.row k q) hO2 hKc.size b 32 (Mc.code k (Mc.four q)) HBW.out (by rw [Hrl.out, Mc.code_length]; omega)
        have hK9 : Kept w3.heap.size w3.heap.size w3 w9 := hKc.grown hg9 hKc.size (fun k h => by simp [Value.ownBlock] at h; omega)
        rw [show Mc.row k q ++ Mc.code k (Mc.four q) = Mc.row k (q + 1) from rfl] at ho9
        have hl9 := Mc.row_length k (q + 1)
        obtain ⟨g9, cap9, hv9, hb9, _, _, _⟩ := owns_bytes ho9 (by rw [hl9]; omega)
        rw [hl9] at hv9
        subst hv9
        rw [Mc.code_length] at hr9
        have Hr9 := Lib.hid hr9
        have Ho9 := Lib.hid ho9
        have HK9 := Lib.hid hK9
        clear hr9 ho9 hK9 hg9 hO2 hgw hKc hl9
        go_wp2_with (with_reducible refine wpList_append_known rfl _ _ 38 38 38 rfl rfl (.slice (some ⟨g, 0, none⟩) (32 * q) cap) (.slice (some ⟨b, 0, none⟩) 32 32) rfl rfl Hr9.out ?_)
        exact ⟨⟨q + 1, g9, cap9, by omega, by rw [Int.natCast_add]; rfl, rfl, hb9, Ho9, HK9⟩, by simp only [intOf]; omega⟩
    · have hd : decide (32 * (q : Int) < (n : Int)) = false := decide_eq_false (by omega)
      have h65 := h1.out
      obtain ⟨g', cap', he, _, _, hcap, hcell⟩ := owns_bytes hO.out (by rw [hrl]; omega)
      rw [hrl] at he
      cases he
      rw [hrl] at hcap
      have hcn : (n : Int) ≤ (cap : Int) := by omega
      have hc0 : cap ≠ 0 := by omega
      have hst := Mc.row_take k n q (by omega)
      have hcv := conv_at wr g 0 cap (Mc.stream k n) (fun j hj => by
        rw [Mc.stream_length] at hj
        rw [hcell j (by rw [hrl]; omega)]
        congr 3
        have h3 : (Mc.stream k n)[j]? = (Mc.row k q)[j]? := by rw [← hst, List.getElem?_take, if_pos hj]
        rw [List.getElem?_eq_getElem (by rw [Mc.stream_length]; omega), List.getElem?_eq_getElem (by rw [hrl]; omega)] at h3
        rw [Option.some.inj h3])
      rw [Mc.stream_length] at hcv
      have Hcv := Lib.hid hcv
      clear hcv hst hcell hrl
      go_wp2_with fail
      rw [Hcv.out]
      go_wp2
      go_ret
      refine ⟨rfl, ?_⟩
      have e3 := HK3.out.size
      exact HK3.out.trans (hK.out.mono (by omega) (fun k hk _ => by omega))

end Go.Proofs.Ytdhebdahfnilkaa
