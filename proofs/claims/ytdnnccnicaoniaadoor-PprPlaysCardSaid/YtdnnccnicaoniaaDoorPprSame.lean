/-
  bevylaw06.same where the landed row has what the document's has.
-/
import Derived.Test.YtdnnccnicaoniaaDoorPprPack

namespace Go.Proofs.YtdnnccnicaoniaaDoor
open Go.RowKit Go.Lib

set_option maxRecDepth 100000 in
set_option maxHeartbeats 6400000 in
theorem same_calls (l : List UInt8) (hl : l.length = 32) (n : Nat) (hn : n ≤ 32) (T : Value) (P : List Nat) (hP32 : ∀ t ∈ P, t < 4294967296) (hPn : P.length ≤ 1000) (rb : Nat) (sl : Value) (w : World) (hR : RowIs w rb n sl (Pp.low n P n ⟨0, 0, l⟩)) (hT : Gones w T P) (ht : Tab w)
    (hin : ∀ s ∈ Pp.low n P n ⟨0, 0, l⟩, s.level < 4294967296 ∧ s.place < 4294967296 ∧ s.self.length = 32) (hcn : (Pp.low n P n ⟨0, 0, l⟩).length < 100000) :
    Calls Tryd.prog 14 #[.pointer (some ⟨rb, 0, none⟩), .agg (refRow l n T)] w fun e w' => e = .returned (.bool true) ∧ Kept w.heap.size w.heap.size w w' := by
  have hsd := fun w h => refseeds_calls l hl n hn T P hP32 hPn w h
  have hcell := fun (w2 : World) (b : Nat) h => refRow_bits (w := w2) (b := b) (t := 32) hl (bits := n) (T := T) h
  have hrs := refRow_size hl n T
  generalize refRow l n T = RD at hsd hcell hrs ⊢
  generalize Pp.low n P n ⟨0, 0, l⟩ = L at hsd hR hin hcn
  have HRI := Lib.hid (refRowInfo hrs)
  have HSEEDS := Lib.hid (fun w h => seeds_calls n L rb sl w h (fun s hs => (hin s hs).2.2) (by omega))
  have HPACK := Lib.hid (fun w h ht => ppack_calls n L rb sl w h hin hcn ht)
  have HRPACK := Lib.hid (fun v w h => refpack_calls L hin hcn v w h)
  have HSD := Lib.hid hsd
  have HCELL := Lib.hid hcell
  have HIN := Lib.hid (fun s hs => (hin s hs).2.2)
  obtain ⟨PK, hPK⟩ : ∃ PK, PK = str (Pp.pack L) := ⟨_, rfl⟩
  rw [← hPK] at HPACK HRPACK
  have hk1 : Kept w.heap.size w.heap.size w (w.alloc (.cells RD 32)) := (Kept.refl _ _ _).alloc (Nat.le_refl _) _
  have HR1 := Lib.hid (hR.kept hk1)
  have HT1 := Lib.hid (hT.kept hk1 (Nat.le_refl _))
  have HTB1 := Lib.hid (ht.kept hk1 ht.lt ht.lt)
  have R1 := Lib.hid (heap_new w (.cells RD 32))
  have K1 := Lib.hid hk1
  obtain ⟨ln, hln⟩ : ∃ ln, ln = L.length := ⟨_, rfl⟩
  have HLN := Lib.hid hln
  have hln9 : (ln : Int) < 100000 := by omega
  clear hsd hcell hrs hin hcn hk1 hR hT ht hP32 hPn hn hl hPK hln
  go_enter Tryd.func14, Tryd.ntmps14
  go_upto_region 1 with fail
  generalize w.alloc (.cells RD 32) = w1 at HR1 HT1 HTB1 R1 K1 ⊢
  obtain ⟨wa, hwa⟩ : ∃ wa, wa = w.heap.size := ⟨_, rfl⟩
  rw [← hwa] at R1 ⊢
  clear hwa
  refine wp_region_lit ?_
  refine wpList_load_row rfl 32 (.tmp 3) rfl (wa) rfl 32 RD (0, 0) _ (R1.out) Tryd.underlying32 rfl (HRI.out) ?_
  simp only [Act.put, List.setIfInBounds_toArray, List.set_cons_zero, List.set_cons_succ]
  refine @BigFrame.wpList_want _ _ _ _ _ _ _ ?hw1901 ?_
  case hw1901 => kernel_rfl
  intro K hK
  go_simp
  go_at_call 26
  refine (HSD.out _ HT1.out).mono ?_
  rintro e w2 ⟨v1, rfl, ho1, k2⟩
  refine hK _ _ ?_
  clear hK K
  have K2 := Lib.hid (K1.out.next1 k2)
  have HR2 := Lib.hid (HR1.out.kept k2)
  have HTB2 := Lib.hid (HTB1.out.kept k2 HTB1.out.lt HTB1.out.lt)
  have R2 := Lib.hid ((k2.block wa (lt_of_block R1.out) (Nat.ne_of_lt (lt_of_block R1.out))).trans R1.out)
  have S2 := Lib.hid ho1.ss
  clear ho1 k2
  refine @BigFrame.wpList_want _ _ _ _ _ _ _ ?hw1902 ?_
  case hw1902 => kernel_rfl
  intro K hK
  go_simp
  refine hK _ _ ?_
  clear hK K
  go_upto_region 2 with fail
  refine wp_region_lit ?_
  refine @BigFrame.wpList_want _ _ _ _ _ _ _ ?hw1903 ?_
  case hw1903 => kernel_rfl
  intro K hK
  go_simp
  refine hK _ _ ?_
  clear hK K
  refine @BigFrame.wpList_want _ _ _ _ _ _ _ ?hw1904 ?_
  case hw1904 => kernel_rfl
  intro K hK
  go_simp
  go_at_call 18
  refine (HSEEDS.out _ HR2.out).mono ?_
  rintro e w3 ⟨v2, rfl, ho2, k3⟩
  refine hK _ _ ?_
  clear hK K
  have K3 := Lib.hid (K2.out.next1 k3)
  have HR3 := Lib.hid (HR2.out.kept k3)
  have HTB3 := Lib.hid (HTB2.out.kept k3 HTB2.out.lt HTB2.out.lt)
  have R3 := Lib.hid ((k3.block wa (lt_of_block R2.out) (Nat.ne_of_lt (lt_of_block R2.out))).trans R2.out)
  have S3 := S2.out.kept k3
  have H3 := ho2.hs
  obtain ⟨a1, g1, o1, c1, rfl, hs1, _⟩ := S3
  have S3 : Ss w3 (.slice a1 L.length c1) L := ⟨a1, g1, o1, c1, rfl, hs1, by assumption⟩
  obtain ⟨a2, c2, rfl⟩ := ho2.slice
  rw [List.length_map] at H3
  rw [← HLN.out] at S3 H3
  rw [List.length_map, ← HLN.out]
  have SS3 := Lib.hid S3
  have HS1 := Lib.hid hs1
  have HH3 := Lib.hid H3
  clear ho2 k3 S3 hs1 H3
  refine @BigFrame.wpList_want _ _ _ _ _ _ _ ?hw1905 ?_
  case hw1905 => kernel_rfl
  intro K hK
  go_simp
  refine hK _ _ ?_
  clear hK K
  go_upto_region 3 with fail
  have KD0 : Kept w3.heap.size w3.heap.size w3 w3.drew := (Kept.refl _ _ _).drew
  have HBT := Lib.hid (fun w' (kk : Kept w3.heap.size w3.heap.size w3 w') => (bits_calls rb n sl w' (HR3.out.kept kk).1).mono (fun e w9 (h : _ ∧ w9 = w') => show e = .returned (.int .i64 (n : Int)) ∧ Kept w'.heap.size w'.heap.size w' w9 from ⟨h.1, by rw [h.2]; exact Kept.refl _ _ _⟩))
  have HLB := Lib.hid (fun w' (kk : Kept w3.heap.size w3.heap.size w3 w') => load_int (w := w') (g := wa) (o := 32) (n := (n : Int)) (HCELL.out w' wa ((kk.block wa (lt_of_block R3.out) (Nat.ne_of_lt (lt_of_block R3.out))).trans R3.out)))
  have HPK := Lib.hid (fun w' (kk : Kept w3.heap.size w3.heap.size w3 w') => HPACK.out w' (HR3.out.kept kk) (HTB3.out.kept kk HTB3.out.lt HTB3.out.lt))
  have HRP := Lib.hid (fun w' (kk : Kept w3.heap.size w3.heap.size w3 w') => HRPACK.out _ w' (SS3.out.kept kk))
  refine wp_region_noPanic ?_
  refine wp_region_held_drew (S := fun w' => Kept w3.heap.size w3.heap.size w3 w') (by kernel_rfl) (KD0) (fun hH => ?_)
  refine wpAnyH_take_at (i := 0) 12 (.slice a2 ln c2) rfl rfl (by kernel_rfl) (by kernel_rfl) (by kernel_rfl) (fun _ _ _ h => h) (.inl ⟨by kernel_rfl, fun w9 _ => by go_simp⟩) hH ?_
  simp only [List.setIfInBounds_toArray, List.set_cons_zero, List.set_cons_succ]
  refine wpAnyH_take_at (i := 1) 13 (.int .i64 (ln : Int)) rfl rfl (by kernel_rfl) (by kernel_rfl) (by kernel_rfl) (fun _ _ _ h => h) (.inl ⟨by kernel_rfl, fun w9 _ => by go_simp⟩) hH ?_
  simp only [List.setIfInBounds_toArray, List.set_cons_zero, List.set_cons_succ]
  refine wpAnyH_take_at (i := 2) 14 (.slice a1 ln c1) rfl rfl (by kernel_rfl) (by kernel_rfl) (by kernel_rfl) (fun _ _ _ h => h) (.inl ⟨by kernel_rfl, fun w9 _ => by go_simp⟩) hH ?_
  simp only [List.setIfInBounds_toArray, List.set_cons_zero, List.set_cons_succ]
  refine wpAnyH_take_at (i := 3) 15 (.int .i64 (ln : Int)) rfl rfl (by kernel_rfl) (by kernel_rfl) (by kernel_rfl) (fun _ _ _ h => h) (.inl ⟨by kernel_rfl, fun w9 _ => by go_simp⟩) hH ?_
  simp only [List.setIfInBounds_toArray, List.set_cons_zero, List.set_cons_succ]
  refine wpAnyH_take_at (i := 4) 16 (.bool false) rfl rfl (by kernel_rfl) (by kernel_rfl) (by kernel_rfl) (fun _ _ _ h => h) (.inl ⟨by kernel_rfl, fun w9 _ => by go_simp⟩) hH ?_
  simp only [List.setIfInBounds_toArray, List.set_cons_zero, List.set_cons_succ]
  refine wpAnyH_take_at (i := 5) 17 (.bool false) rfl rfl (by kernel_rfl) (by kernel_rfl) (by kernel_rfl) (fun _ _ _ h => h) (.inl ⟨by kernel_rfl, fun w9 _ => by go_simp⟩) hH ?_
  simp only [List.setIfInBounds_toArray, List.set_cons_zero, List.set_cons_succ]
  refine wpAnyH_take_at (i := 6) 18 (.pointer (some ⟨rb, 0, none⟩)) rfl rfl (by kernel_rfl) (by kernel_rfl) (by kernel_rfl) (fun _ _ _ h => h) (.inl ⟨by kernel_rfl, fun w9 _ => by go_simp⟩) hH ?_
  simp only [List.setIfInBounds_toArray, List.set_cons_zero, List.set_cons_succ]
  refine wpAnyH_take_at (i := 8) 20 (.pointer (some ⟨wa, 32, none⟩)) rfl rfl (by kernel_rfl) (by kernel_rfl) (by kernel_rfl) (fun _ _ _ h => h) (.inl ⟨by kernel_rfl, fun w9 _ => by go_simp⟩) hH ?_
  simp only [List.setIfInBounds_toArray, List.set_cons_zero, List.set_cons_succ]
  refine wpAnyH_take_at (i := 9) 21 (.int .i64 (n : Int)) rfl rfl (by kernel_rfl) (by kernel_rfl) (by kernel_rfl) (fun _ _ _ h => h) (yieldsIf_load_known (by kernel_rfl) 3 _ rfl (wa) (32) rfl (.int .i64 (n : Int)) (fun w' hw' => HLB.out w' hw')) hH ?_
  simp only [List.setIfInBounds_toArray, List.set_cons_zero, List.set_cons_succ]
  refine wpAnyH_ready (rs := [7]) (by kernel_rfl) (by simp) ?_
  refine AllReadyH.cons rfl (fun K hK => ?_) AllReadyH.nil
  rw [if_pos (by rfl)]
  go_simp
  go_wp2_with (go_at_call 27; refine (HBT.out _ KD0).mono ?_; rintro e w6 ⟨rfl, kw6⟩)
  have Kw6 : Kept w3.heap.size w3.heap.size w3 w6 := KD0.trans (kw6.mono KD0.size (fun i hi _ => Nat.ne_of_lt (Nat.lt_of_lt_of_le hi KD0.size)))
  refine hK.out _ _ (Kw6) (fun hH => ?_)
  clear hK K
  refine wpAnyH_take_at (i := 10) 22 (.bool false) rfl rfl (by kernel_rfl) (by kernel_rfl) (by kernel_rfl) (fun _ _ _ h => h) (.inl ⟨by kernel_rfl, fun w9 _ => by go_simp⟩) hH ?_
  simp only [List.setIfInBounds_toArray, List.set_cons_zero, List.set_cons_succ]
  refine wpAnyH_take_at (i := 11) 23 (.bool false) rfl rfl (by kernel_rfl) (by kernel_rfl) (by kernel_rfl) (fun _ _ _ h => h) (.inl ⟨by kernel_rfl, fun w9 _ => by go_simp⟩) hH ?_
  simp only [List.setIfInBounds_toArray, List.set_cons_zero, List.set_cons_succ]
  refine wpAnyH_take_at (i := 12) 24 (.bool false) rfl rfl (by kernel_rfl) (by kernel_rfl) (by kernel_rfl) (fun _ _ _ h => h) (.inl ⟨by kernel_rfl, fun w9 _ => by go_simp⟩) hH ?_
  simp only [List.setIfInBounds_toArray, List.set_cons_zero, List.set_cons_succ]
  refine wpAnyH_take_at (i := 13) 25 (.pointer (some ⟨rb, 0, none⟩)) rfl rfl (by kernel_rfl) (by kernel_rfl) (by kernel_rfl) (fun _ _ _ h => h) (.inl ⟨by kernel_rfl, fun w9 _ => by go_simp⟩) hH ?_
  simp only [List.setIfInBounds_toArray, List.set_cons_zero, List.set_cons_succ]
  refine wpAnyH_take_at (i := 15) 27 (.slice a1 ln c1) rfl rfl (by kernel_rfl) (by kernel_rfl) (by kernel_rfl) (fun _ _ _ h => h) (.inl ⟨by kernel_rfl, fun w9 _ => by go_simp⟩) hH ?_
  simp only [List.setIfInBounds_toArray, List.set_cons_zero, List.set_cons_succ]
  refine wpAnyH_ready (rs := [14]) (by kernel_rfl) (by simp) ?_
  refine AllReadyH.cons rfl (fun K hK => ?_) AllReadyH.nil
  rw [if_pos (by rfl)]
  go_simp
  go_wp2_with (go_at_call 17; refine (HPK.out _ Kw6).mono ?_; rintro e w7 ⟨rfl, kw7⟩)
  have Kw7 : Kept w3.heap.size w3.heap.size w3 w7 := Kw6.trans (kw7.mono Kw6.size (fun i hi _ => Nat.ne_of_lt (Nat.lt_of_lt_of_le hi Kw6.size)))
  refine hK.out _ _ (Kw7) (fun hH => ?_)
  clear hK K
  refine wpAnyH_ready (rs := [16]) (by kernel_rfl) (by simp) ?_
  refine AllReadyH.cons rfl (fun K hK => ?_) AllReadyH.nil
  rw [if_pos (by rfl)]
  go_simp
  go_wp2_with (go_at_call 28; refine (HRP.out _ Kw7).mono ?_; rintro e w8 ⟨rfl, kw8⟩)
  have Kw8 : Kept w3.heap.size w3.heap.size w3 w8 := Kw7.trans (kw8.mono Kw7.size (fun i hi _ => Nat.ne_of_lt (Nat.lt_of_lt_of_le hi Kw7.size)))
  refine hK.out _ _ (Kw8) (fun hH => ?_)
  clear hK K
  refine wpAnyH_take_at (i := 17) 29 (.bool false) rfl rfl (by kernel_rfl) (by kernel_rfl) (by kernel_rfl) (fun _ _ _ h => h) (.inl ⟨by kernel_rfl, fun w9 _ => by go_simp⟩) hH ?_
  simp only [List.setIfInBounds_toArray, List.set_cons_zero, List.set_cons_succ]
  refine wpAnyH_take_at (i := 18) 30 (.bool false) rfl rfl (by kernel_rfl) (by kernel_rfl) (by kernel_rfl) (fun _ _ _ h => h) (.inl ⟨by kernel_rfl, fun w9 _ => by go_simp⟩) hH ?_
  simp only [List.setIfInBounds_toArray, List.set_cons_zero, List.set_cons_succ]
  refine wpAnyH_done (by kernel_rfl) ?_ _
  refine NoPanic.normal ?_
  have HK8 := Lib.hid Kw8
  clear Kw6 Kw7 Kw8 KD0 kw6 kw7 kw8
  go_wp2_with fail
  go_loopw [7] (fun s7 wr => ∃ i : Nat, s7 = .int .i64 (i : Int) ∧ Hid (i ≤ ln) ∧ Hid (Kept w3.heap.size w3.heap.size w3 wr)) (fun s7 _ => ln - (RowKit.intOf s7).toNat)
  case atStart => exact ⟨0, rfl, Lib.hid (Nat.zero_le _), HK8⟩
  case round =>
    obtain ⟨i, rfl, hi, HK⟩ := hrel
    by_cases hlt : i < ln
    · have hiL : i < L.length := by rw [← HLN.out]; exact hlt
      obtain ⟨had1, hg1, hr1⟩ := HS1.out i hiL
      subst had1
      obtain ⟨hx32, ad2, g2, o2, c2', e2, hb2⟩ := HH3.out
      obtain ⟨had2, hg2, hr2⟩ := hb2 i (by rw [List.length_map]; exact hiL)
      obtain ⟨rfl, hxl, rfl⟩ : a2 = ad2 ∧ ln = (L.map Sd.self).length ∧ c2 = c2' := by injection e2 with x1 x2 x3; exact ⟨x1, x2, x3⟩
      subst had2
      rw [List.getElem_map] at hr2
      have b3 := HIN.out _ (List.getElem_mem hiL)
      have hlti : (i : Int) < (ln : Int) := by omega
      have hi0 : ¬ (i : Int) < 0 := by omega
      generalize L[i] = s at hr1 hr2 b3
      have heq : ∀ w, (Op.equalIn 10000 23 (.agg (bcells s.self).toArray) (.agg (bcells s.self).toArray)).run Tryd.prog w = .ok true w := fun w => by
        have := hash_equalIn w s.self s.self b3 b3
        rwa [beq_self_eq_true] at this
      have gd := macGuard25
      have HLA := Lib.hid (fun w' (kk : Kept w3.heap.size w3.heap.size w3 w') => run_loadVar_mid w' g2 (o2 + i * 32) 23 (bcells s.self) _ (rangeAt_kept kk hr2 hg2 (Nat.ne_of_lt hg2)) Tryd.underlying23 rfl (by rw [keyInfo b3]; simp))
      have HLC := Lib.hid (fun w' (kk : Kept w3.heap.size w3.heap.size w3 w') => run_loadVar_mid w' g1 (o1 + i * 34 + 2) 22 (bcells s.self) _ (fun j u hj => by
        have := rangeAt_kept kk hr1 hg1 (Nat.ne_of_lt hg1) (j + 2) u (by simpa [Pp.cells] using hj)
        rwa [show o1 + i * 34 + (j + 2) = o1 + i * 34 + 2 + j by omega] at this) Tryd.underlying22 rfl (by have := h32Info (cs := (bcells s.self).toArray) (by rw [List.size_toArray, bcells_length, b3]); simpa using this))
      obtain ⟨E, hE⟩ : ∃ E, E = (bcells s.self).toArray := ⟨_, rfl⟩
      rw [← hE] at HLA HLC
      simp only [← hE] at heq
      have HLT := Lib.hid hlt
      clear hlt hi hiL hg1 hr1 hb2 e2 hg2 hr2 b3 hE hxl hx32
      go_upto_region 8 with fail
      have HKD : Hid (Kept w3.heap.size w3.heap.size w3 wr.drew) := Lib.hid HK.out.drew
      refine wp_region_noPanic ?_
      refine wp_region_held_drew (S := fun w' => Kept w3.heap.size w3.heap.size w3 w') (by kernel_rfl) (HKD.out) (fun hH => ?_)
      refine wpAnyH_take_at (i := 0) 37 (.slice (some ⟨g2, o2, none⟩) ln c2) rfl rfl (by kernel_rfl) (by kernel_rfl) (by kernel_rfl) (fun _ _ _ h => h) (.inl ⟨by kernel_rfl, fun w9 _ => by go_simp⟩) hH ?_
      simp only [List.setIfInBounds_toArray, List.set_cons_zero, List.set_cons_succ]
      refine wpAnyH_take_at (i := 1) 38 (.int .i64 (i : Int)) rfl rfl (by kernel_rfl) (by kernel_rfl) (by kernel_rfl) (fun _ _ _ h => h) (.inl ⟨by kernel_rfl, fun w9 _ => by go_simp⟩) hH ?_
      simp only [List.setIfInBounds_toArray, List.set_cons_zero, List.set_cons_succ]
      refine wpAnyH_take_at (i := 2) 39 (.pointer (some ⟨g2, o2 + i * 32, none⟩)) rfl rfl (by kernel_rfl) (by kernel_rfl) (by kernel_rfl) (fun _ _ _ h => h) (.inl ⟨by kernel_rfl, fun w9 _ => by go_simp⟩) hH ?_
      simp only [List.setIfInBounds_toArray, List.set_cons_zero, List.set_cons_succ]
      refine wpAnyH_take_at (i := 3) 40 (.agg E) rfl rfl (by kernel_rfl) (by kernel_rfl) (by kernel_rfl) (fun _ _ _ h => h) (yieldsIf_load_known (by kernel_rfl) 23 _ rfl (g2) (o2 + i * 32) rfl (.agg E) (fun w' hw' => HLA.out w' hw')) hH ?_
      simp only [List.setIfInBounds_toArray, List.set_cons_zero, List.set_cons_succ]
      refine wpAnyH_take_at (i := 4) 41 (.slice (some ⟨g1, o1, none⟩) ln c1) rfl rfl (by kernel_rfl) (by kernel_rfl) (by kernel_rfl) (fun _ _ _ h => h) (.inl ⟨by kernel_rfl, fun w9 _ => by go_simp⟩) hH ?_
      simp only [List.setIfInBounds_toArray, List.set_cons_zero, List.set_cons_succ]
      refine wpAnyH_take_at (i := 5) 42 (.int .i64 (i : Int)) rfl rfl (by kernel_rfl) (by kernel_rfl) (by kernel_rfl) (fun _ _ _ h => h) (.inl ⟨by kernel_rfl, fun w9 _ => by go_simp⟩) hH ?_
      simp only [List.setIfInBounds_toArray, List.set_cons_zero, List.set_cons_succ]
      refine wpAnyH_take_at (i := 6) 43 (.pointer (some ⟨g1, o1 + i * 34, none⟩)) rfl rfl (by kernel_rfl) (by kernel_rfl) (by kernel_rfl) (fun _ _ _ h => h) (.inl ⟨by kernel_rfl, fun w9 _ => by go_simp⟩) hH ?_
      simp only [List.setIfInBounds_toArray, List.set_cons_zero, List.set_cons_succ]
      refine wpAnyH_take_at (i := 7) 44 (.pointer (some ⟨g1, o1 + i * 34 + 2, none⟩)) rfl rfl (by kernel_rfl) (by kernel_rfl) (by kernel_rfl) (fun _ _ _ h => h) (.inl ⟨by kernel_rfl, fun w9 _ => by go_simp⟩) hH ?_
      simp only [List.setIfInBounds_toArray, List.set_cons_zero, List.set_cons_succ]
      refine wpAnyH_take_at (i := 8) 45 (.agg E) rfl rfl (by kernel_rfl) (by kernel_rfl) (by kernel_rfl) (fun _ _ _ h => h) (yieldsIf_load_known (by kernel_rfl) 22 _ rfl (g1) (o1 + i * 34 + 2) rfl (.agg E) (fun w' hw' => HLC.out w' hw')) hH ?_
      simp only [List.setIfInBounds_toArray, List.set_cons_zero, List.set_cons_succ]
      refine wpAnyH_take_at (i := 9) 46 (.bool false) rfl rfl (by kernel_rfl) (by kernel_rfl) (by kernel_rfl) (fun _ _ _ h => h) (.inl ⟨by kernel_rfl, fun w9 _ => by go_simp⟩) hH ?_
      simp only [List.setIfInBounds_toArray, List.set_cons_zero, List.set_cons_succ]
      refine wpAnyH_done (by kernel_rfl) ?_ _
      refine NoPanic.normal ?_
      go_wp2
      go_roundw
      case rel => exact ⟨i + 1, by simp, Lib.hid HLT.out, HKD⟩
      case measure => have := HLT.out; simp [RowKit.intOf]; omega
    · have hnl : ¬ (i : Int) < (ln : Int) := by omega
      clear hlt hi
      go_wp2
      go_ret
      exact ⟨rfl, K3.out.next1 HK.out⟩

end Go.Proofs.YtdnnccnicaoniaaDoor
