/-
  PrimTwo; PrimPub: several texts in one.
-/
import Derived.Test.YtohichignjjleaaGL
import Derived.Test.YtohichignjjleaaGF
import Derived.Test.YtohichignjjleaaGH

namespace Go.Proofs.Ytohichignjjleaa
open Go.RowKit Go.Lib

theorem keyInfo {l : List UInt8} (h : l.length = 32) : (Try.prog.info? 26).map (·.size) = some (bcells l).toArray.size := by rw [shaInfo30, List.size_toArray, bcells_length, h]
theorem keySize {l : List UInt8} (h : l.length = 32) : zeros32.size = (bcells l).toArray.size := by rw [zeros32_size, List.size_toArray, bcells_length, h]

/-- A slice built of one array, as an operation. -/
theorem wp_build_one {P : Program} {o : Oper} {a : Act} {w : World} {K : Act → World → Prop} {Q : Exit → Act → World → Prop} (x : Operand) (t e : TypeId) (ho : o.op = .buildSlice t 1 #[(0, x)]) (i : TypeInfo) (z : Value) (ht : P.underlying t = some (.slice e)) (hi : P.info? e = some i) (hz : i.zero = some z)
    (cs : Array Value) (hx : a.eval x = .agg cs) (hs : cs.size = i.size) (hpos : 0 < i.size) (hmax : i.size ≤ 16777216) (hk : K (a.put o.dst (.slice (some ⟨w.heap.size, 0, none⟩) 1 1)) (w.alloc (.cells cs e))) : o.wp P a w K Q := by
  have hr := run_build_one (P := P) w t e i z ht hi hz cs hs hpos hmax
  unfold Oper.wp execOp
  simp only [ho, List.map_toArray, List.map_cons, List.map_nil, hx, Sem.run_bind, hr, Result.andThen_ok, Sem.run_pure]
  exact hk

set_option maxRecDepth 100000 in
set_option maxHeartbeats 3200000 in
theorem pnote_nil (f : List (List UInt8) × List (List UInt8)) (a b : Value) (w : World) (ha : Hs w a f.1) (hb : Hs w b f.2) : Calls Try.prog 39 #[.pointer none, a, b] w fun e w' => e = .returned (.tuple #[]) ∧ Kept w.heap.size w.heap.size w w' := by
  have hn := note_nil f a b w ha hb
  generalize (if f.2.length = 0 then (1 : Int) else 0) = E at hn
  obtain ⟨zp1, aad, ag, ao, ac, rfl, zp2⟩ := id ha
  clear zp1 zp2
  obtain ⟨zp1, bad, bg, bo, bc, rfl, zp2⟩ := id hb
  clear zp1 zp2
  have HN := Lib.hid hn
  clear hn ha hb
  go_enter Try.func39, Try.ntmps39
  go_wp2_with (go_at_call 67; refine HN.out.mono ?_; rintro e w2 ⟨rfl, k2⟩)
  go_end0
  exact ⟨rfl, k2⟩

end Go.Proofs.Ytohichignjjleaa

namespace Go.Proofs.Ytohichignjjleaa
open Go.RowKit Go.Lib

set_option maxRecDepth 100000 in
set_option maxHeartbeats 3200000 in
theorem pub_nil (k : List UInt8) (hk : Hid (k.length = 32)) (w : World) : Calls Try.prog 12 #[.pointer none, .agg (bcells k).toArray] w fun e w' => e = .returned (.agg (bcells (Pm.pub k)).toArray) ∧ Kept w.heap.size w.heap.size w w' := by
  have hku := keyInfo hk.out
  have hk1 : (bcells k).toArray.size = 32 := by rw [List.size_toArray, bcells_length, hk.out]
  generalize hkc : (bcells k).toArray = kc at hku hk1
  have Hkc := Lib.hid hkc
  have HKI := Lib.hid hku
  have HK32 := Lib.hid hk1
  clear hkc hku hk1
  obtain ⟨i0, z0, hi0, hz0, hzs0, hs0, hb0⟩ := hash_info
  have HI0 := Lib.hid hi0
  have HZ0 := Lib.hid hz0
  have HS0 := Lib.hid hs0
  clear hi0 hz0 hzs0 hs0 hb0
  go_enter Try.func12, Try.ntmps12
  go_upto_region 1 with fail
  rw [zeros32_eq]
  have hP : ((w.alloc (.cells kc 26)).alloc (.cells zeros32 26)).heap[w.heap.size]? = some (.cells kc 26 (0, 0)) := heap_alloc2_old w _ _
  have hR : ((w.alloc (.cells kc 26)).alloc (.cells zeros32 26)).heap[w.heap.size + 1]? = some (.cells zeros32 26 (0, 0)) := heap_alloc2_last w _ _
  have k1 : Kept w.heap.size w.heap.size w ((w.alloc (.cells kc 26)).alloc (.cells zeros32 26)) := ((Kept.refl _ _ _).alloc (Nat.le_refl _) _).alloc (by simp) _
  have s1 : ((w.alloc (.cells kc 26)).alloc (.cells zeros32 26)).heap.size = w.heap.size + 2 := by simp
  generalize (w.alloc (.cells kc 26)).alloc (.cells zeros32 26) = w1 at hP hR k1 s1 ⊢
  obtain ⟨wa, hwa⟩ : ∃ wa, wa = w.heap.size := ⟨_, rfl⟩
  rw [← hwa] at hP hR k1 s1 ⊢
  have hrow : ∀ w', Kept w1.heap.size w1.heap.size w1 w' → w'.heap[wa + 1]? = some (.cells zeros32 26 (0, 0)) := fun w' kk => (kk.block (wa + 1) (by omega) (by omega)).trans hR
  have hkey : ∀ w', Kept w1.heap.size w1.heap.size w1 w' → w'.heap[wa]? = some (.cells kc 26 (0, 0)) := fun w' kk => (kk.block wa (by omega) (by omega)).trans hP
  have cA : (convert 45 9 (.slice (some ⟨wa, 0, none⟩) 32 32)).run Try.prog w1 = .ok (.string (str k)) w1 := conv_hash hk.out (by rw [Hkc.out]; exact hP)
  have hdv := sum_two ⟨#[112, 117, 98]⟩ (str k) w1 (by decide) (by rw [str_size, hk.out]; decide)
  rw [show Sm.sum ((⟨#[112, 117, 98]⟩ : ByteArray).data.toList ++ (str k).data.toList) = Pm.pub k from rfl] at hdv
  have hdl : (Pm.pub k).length = 32 := Pm.pub_length k
  have hmk : ∀ w', Calls Try.prog 44 #[.agg (bcells (Pm.pub k)).toArray] w' fun e w'' => e = .returned (.agg (bcells (Pm.mark (Pm.pub k))).toArray) ∧ Kept w'.heap.size w'.heap.size w' w'' := fun w' => mark_calls (Pm.pub k) (Lib.hid hdl) w'
  have hml : (Pm.mark (Pm.pub k)).length = 32 := Pm.mark_length _
  have hmz : (bcells (Pm.mark (Pm.pub k))).toArray.size = 32 := by rw [List.size_toArray, bcells_length, hml]
  have hmn : ∀ (w' : World) (g h : Nat), w'.heap[g]? = some (.cells kc 26 (0, 0)) → w'.heap[h]? = some (.cells (bcells (Pm.mark (Pm.pub k))).toArray 26 (0, 0)) → Calls Try.prog 39 #[.pointer none, .slice (some ⟨g, 0, none⟩) 1 1, .slice (some ⟨h, 0, none⟩) 1 1] w' fun e w'' => e = .returned (.tuple #[]) ∧ Kept w'.heap.size w'.heap.size w' w'' := fun w' g h hg hh => pnote_nil ([k], [Pm.mark (Pm.pub k)]) _ _ w' (hs_one hk.out (by rw [Hkc.out]; exact hg)) (hs_one hml hh)
  generalize (bcells (Pm.mark (Pm.pub k))).toArray = cm at hmk hmz hmn
  generalize hM : Pm.pub k = m at hdv hdl hmk
  have HM := Lib.hid hM
  clear hM hml
  have hiu := keyInfo (l := m) (hdl)
  have hzu := keySize (l := m) (hdl)
  have hcs : (bcells (m)).toArray.size = 32 := by rw [List.size_toArray, bcells_length, hdl]
  have hall := bcells_all (m)
  generalize hcu : (bcells (m)).toArray = cu at hiu hzu hcs hall hdv hmk
  have HIU := Lib.hid hiu
  have HZU := Lib.hid hzu
  have HALL := Lib.hid hall
  have Hcs := Lib.hid hcs
  have Hcu := Lib.hid hcu
  have HROW := Lib.hid hrow
  have HKEY := Lib.hid hkey
  have HK1 := Lib.hid k1
  have HS1 := Lib.hid s1
  have HWA := Lib.hid hwa
  clear hiu hzu hall hcs hcu hrow hkey k1 s1 hwa
  generalize str k = sk at cA hdv
  have HDV := Lib.hid hdv
  have HMK := Lib.hid hmk
  have HMZ := Lib.hid hmz
  have HMN := Lib.hid hmn
  clear hdv hP hR hmk hmz hmn
  go_upto_region 1 with fail
  refine wp_region_lit ?_
  refine @BigFrame.wpList_want _ _ _ _ _ _ _ ?hwa0 ?_
  case hwa0 => kernel_rfl
  intro K hK
  go_simp
  refine hK _ _ ?_
  clear hK K
  refine @BigFrame.wpList_want _ _ _ _ _ _ _ ?hwa1 ?_
  case hwa1 => kernel_rfl
  intro K hK
  go_simp
  refine hK _ _ ?_
  clear hK K
  refine @BigFrame.wpList_want _ _ _ _ _ _ _ ?hwa2 ?_
  case hwa2 => kernel_rfl
  intro K hK
  go_simp
  refine hK _ _ ?_
  clear hK K
  refine @BigFrame.wpList_want _ _ _ _ _ _ _ ?hwa3 ?_
  case hwa3 => kernel_rfl
  intro K hK
  go_simp
  go_at_call 43; refine HDV.out.mono ?_; rintro e w3 ⟨rfl, k3⟩
  refine hK _ _ ?_
  clear hK K
  have k3' : Kept w1.heap.size w1.heap.size w1 w3 := ((Kept.refl _ _ _).alloc (Nat.le_refl _) _).trans (k3.mono (Nat.le_succ _) (fun i hi _ => by omega))
  refine wpList_alloc_k rfl 26 rfl (alloc_zero _) ?_
  simp only [Act.put, List.setIfInBounds_toArray, List.set_cons_zero, List.set_cons_succ]
  refine wpList_store_row rfl 26 _ _ rfl (w3.heap.size) cu rfl rfl 26 zeros32 (heap_new _ _) HIU.out HZU.out HALL.out ?_
  simp only [Act.put]
  have K4 : Kept w1.heap.size w1.heap.size w1 (w3.alloc (.cells zeros32 26)) := k3'.alloc k3'.size _
  have K5 : Kept w1.heap.size w1.heap.size w1 ((w3.alloc (.cells zeros32 26)).setRow w3.heap.size cu) := Kept.ofBelow (below_setRow (K4.below (Nat.le_refl _) (Nat.le_refl _)) k3'.size cu) (Nat.le_refl _)
  have r5 := setRow_heap (w3.alloc (.cells zeros32 26)) w3.heap.size zeros32 cu _ _ (heap_new _ _)
  generalize (w3.alloc (.cells zeros32 26)).setRow w3.heap.size cu = w5 at K5 r5 ⊢
  have hwm : w1.heap.size ≤ w3.heap.size := k3'.size
  generalize w3.heap.size = wm at r5 hwm ⊢
  clear K4
  have hld : ∀ w', Kept w5.heap.size w5.heap.size w5 w' → (loadVar 26 ⟨wa, 0, none⟩).run Try.prog w' = .ok (.agg kc) w' ∧ (loadVar 26 ⟨wm, 0, none⟩).run Try.prog w' = .ok (.agg cu) w' := fun w' kk => by
    have rk := HKEY.out w5 K5
    exact ⟨run_loadVar_row w' wa 26 26 kc (0, 0) _ ((kk.block _ (lt_of_block rk) (Nat.ne_of_lt (lt_of_block rk))).trans rk) Try.underlying26 rfl HKI.out, run_loadVar_row w' wm 26 26 cu (0, 0) _ ((kk.block _ (lt_of_block r5) (Nat.ne_of_lt (lt_of_block r5))).trans r5) Try.underlying26 rfl HIU.out⟩
  have HLD := Lib.hid hld
  have R5 := Lib.hid r5
  clear hld r5 cA
  go_upto_region 2 with fail
  refine wp_region_noPanic ?_
  refine wp_region_held_drew (S := fun w' => Kept w5.heap.size w5.heap.size w5 w') (by kernel_rfl) ((Kept.refl _ _ _).drew) (fun hH => ?_)
  refine wpAnyH_take_at (i := 0) 10 (.pointer none) rfl rfl (by kernel_rfl) (by kernel_rfl) (by kernel_rfl) (fun _ _ _ h => h) (.inl ⟨by rfl, fun w9 _ => by go_simp⟩) hH ?_
  simp only [List.setIfInBounds_toArray, List.set_cons_zero, List.set_cons_succ]
  refine wpAnyH_take_at (i := 1) 11 (.agg kc) rfl rfl (by kernel_rfl) (by kernel_rfl) (by kernel_rfl) (fun _ _ _ h => h) (yieldsIf_load_known (by rfl) 26 _ rfl (wa) (0) rfl (.agg kc) (fun w' hw' => (HLD.out w' hw').1)) hH ?_
  simp only [List.setIfInBounds_toArray, List.set_cons_zero, List.set_cons_succ]
  refine wpAnyH_take_at (i := 3) 13 (.agg cu) rfl rfl (by kernel_rfl) (by kernel_rfl) (by kernel_rfl) (fun _ _ _ h => h) (yieldsIf_load_known (by rfl) 26 _ rfl (wm) (0) rfl (.agg cu) (fun w' hw' => (HLD.out w' hw').2)) hH ?_
  simp only [List.setIfInBounds_toArray, List.set_cons_zero, List.set_cons_succ]
  refine wpAnyH_ready (rs := [2, 4]) (by kernel_rfl) (by simp) ?_
  refine AllReadyH.cons rfl (fun K hK => ?_) ?_
  · rw [if_pos (by rfl)]
    refine wp_build_one _ 23 26 rfl i0 z0 Try.underlying23 HI0.out HZ0.out kc rfl (by rw [HS0.out]; exact HK32.out) (by rw [HS0.out]; decide) (by rw [HS0.out]; decide) ?_
    simp only [Act.put, List.setIfInBounds_toArray]
    have KA : Kept w5.heap.size w5.heap.size w5 (w5.drew.alloc (.cells kc 26)) := (Kept.refl _ _ _).drew.alloc (Nat.le_refl _) _
    have rA : (w5.drew.alloc (.cells kc 26)).heap[w5.drew.heap.size]? = some (.cells kc 26 (0, 0)) := heap_new _ _
    refine hK.out _ _ (KA) (fun hH => ?_)
    clear hK K
    refine wpAnyH_ready (rs := [4]) (by kernel_rfl) (by simp) ?_
    refine AllReadyH.cons rfl (fun K hK => ?_) AllReadyH.nil
    rw [if_pos (by rfl)]
    go_simp
    go_wp2_with (go_at_call 44; refine (HMK.out _).mono ?_; rintro e w6 ⟨rfl, k6⟩)
    have KB : Kept w5.heap.size w5.heap.size w5 w6 := KA.trans (k6.mono KA.size (fun i hi _ => Nat.ne_of_lt (Nat.lt_of_lt_of_le hi KA.size)))
    have rB := (k6.block _ (lt_of_block rA) (Nat.ne_of_lt (lt_of_block rA))).trans rA
    refine hK.out _ _ (KB) (fun hH => ?_)
    clear hK K
    refine wpAnyH_ready (rs := [5]) (by kernel_rfl) (by simp) ?_
    refine AllReadyH.cons rfl (fun K hK => ?_) AllReadyH.nil
    rw [if_pos (by rfl)]
    refine wp_build_one _ 23 26 rfl i0 z0 Try.underlying23 HI0.out HZ0.out cm rfl (by rw [HS0.out]; exact HMZ.out) (by rw [HS0.out]; decide) (by rw [HS0.out]; decide) ?_
    simp only [Act.put, List.setIfInBounds_toArray]
    have KC : Kept w5.heap.size w5.heap.size w5 (w6.alloc (.cells cm 26)) := KB.alloc KB.size _
    have rC : (w6.alloc (.cells cm 26)).heap[w5.drew.heap.size]? = some (.cells kc 26 (0, 0)) := by rw [Below.heap_alloc _ _ _ (lt_of_block rB)]; exact rB
    refine hK.out _ _ (KC) (fun hH => ?_)
    clear hK K
    refine wpAnyH_ready (rs := [6]) (by kernel_rfl) (by simp) ?_
    refine AllReadyH.cons rfl (fun K hK => ?_) AllReadyH.nil
    rw [if_pos (by rfl)]
    go_simp
    go_wp2_with (go_at_call 39; refine (HMN.out _ (w5.drew.heap.size) (w6.heap.size) (rC) (heap_new _ _)).mono ?_; rintro e w8 ⟨rfl, k8⟩)
    have J8 : Kept w5.heap.size w5.heap.size w5 w8 := KC.trans (k8.mono KC.size (fun i hi _ => Nat.ne_of_lt (Nat.lt_of_lt_of_le hi KC.size)))
    refine hK.out _ _ (J8) (fun hH => ?_)
    clear hK K
    refine wpAnyH_done (by kernel_rfl) ?_ _
    refine NoPanic.normal ?_
    have K8 : Kept w1.heap.size w1.heap.size w1 w8 := K5.trans (J8.mono K5.size (fun i hi _ => by have := K5.size; omega))
    have r8 : w8.heap[wm]? = some (.cells cu 26 (0, 0)) := (J8.block wm (lt_of_block R5.out) (Nat.ne_of_lt (lt_of_block R5.out))).trans R5.out
    have R8 := Lib.hid r8
    clear r8
    go_upto_region 3 with fail
    refine wp_region_lit ?_
    refine wpList_load_row_g ?hwl1 26 _ rfl (wm) rfl 26 cu (0, 0) _ (R8.out) Try.underlying26 rfl HIU.out ?_
    case hwl1 => kernel_rfl
    simp only [Act.put, List.setIfInBounds_toArray, List.set_cons_zero, List.set_cons_succ]
    refine wpList_store_row rfl 26 _ _ rfl (wa + 1) cu rfl rfl 26 zeros32 (HROW.out w8 K8) HIU.out HZU.out HALL.out ?_
    simp only [Act.put]
    have HMM := HM.out
    have t2 := setRow_heap w8 (wa + 1) zeros32 cu _ _ (HROW.out w8 K8)
    have t1 : Kept w.heap.size w.heap.size w (w8.setRow (wa + 1) cu) := by
      have e1 := HWA.out
      have e2 := HS1.out
      refine Kept.trans (w2 := w8) ?_ ⟨rfl, rfl, rfl, by simp [World.setRow], fun k hk _ => setRow_other w8 (wa + 1) k cu (by omega)⟩
      rw [← e1]
      exact HK1.out.trans (K8.mono (by omega) (fun k hk _ => by omega))
    have hiu := HIU.out
    go_wp2_with fail
    refine bodyPost_ret (results_cell_row rfl _ _ (wa + 1) 26 cu (0, 0) _ rfl t2 Try.underlying26 rfl hiu) rfl ?_
    exact ⟨by rw [HMM, Hcu.out], t1⟩
  · refine AllReadyH.cons rfl (fun K hK => ?_) AllReadyH.nil
    rw [if_pos (by rfl)]
    go_simp
    go_wp2_with (go_at_call 44; refine (HMK.out _).mono ?_; rintro e w6 ⟨rfl, k6⟩)
    have KB : Kept w5.heap.size w5.heap.size w5 w6 := (Kept.refl _ _ _).drew.trans k6
    refine hK.out _ _ (KB) (fun hH => ?_)
    clear hK K
    refine wpAnyH_ready (rs := [2, 5]) (by kernel_rfl) (by simp) ?_
    refine AllReadyH.cons rfl (fun K hK => ?_) ?_
    · rw [if_pos (by rfl)]
      refine wp_build_one _ 23 26 rfl i0 z0 Try.underlying23 HI0.out HZ0.out kc rfl (by rw [HS0.out]; exact HK32.out) (by rw [HS0.out]; decide) (by rw [HS0.out]; decide) ?_
      simp only [Act.put, List.setIfInBounds_toArray]
      have KA : Kept w5.heap.size w5.heap.size w5 (w6.alloc (.cells kc 26)) := KB.alloc KB.size _
      have rA : (w6.alloc (.cells kc 26)).heap[w6.heap.size]? = some (.cells kc 26 (0, 0)) := heap_new _ _
      have sA : (w6.alloc (.cells kc 26)).heap.size = w6.heap.size + 1 := by simp
      refine hK.out _ _ (KA) (fun hH => ?_)
      clear hK K
      refine wpAnyH_ready (rs := [5]) (by kernel_rfl) (by simp) ?_
      refine AllReadyH.cons rfl (fun K hK => ?_) AllReadyH.nil
      rw [if_pos (by rfl)]
      refine wp_build_one _ 23 26 rfl i0 z0 Try.underlying23 HI0.out HZ0.out cm rfl (by rw [HS0.out]; exact HMZ.out) (by rw [HS0.out]; decide) (by rw [HS0.out]; decide) ?_
      simp only [Act.put]
      have KC : Kept w5.heap.size w5.heap.size w5 ((w6.alloc (.cells kc 26)).alloc (.cells cm 26)) := KA.alloc KA.size _
      have rC : ((w6.alloc (.cells kc 26)).alloc (.cells cm 26)).heap[w6.heap.size]? = some (.cells kc 26 (0, 0)) := by rw [Below.heap_alloc _ _ _ (lt_of_block rA)]; exact rA
      refine hK.out _ _ (KC) (fun hH => ?_)
      clear hK K
      have rD : ((w6.alloc (.cells kc 26)).alloc (.cells cm 26)).heap[w6.heap.size + 1]? = some (.cells cm 26 (0, 0)) := by rw [← sA]; exact heap_new _ _
      refine wpAnyH_ready (rs := [6]) (by kernel_rfl) (by simp) ?_
      refine AllReadyH.cons rfl (fun K hK => ?_) AllReadyH.nil
      rw [if_pos (by rfl)]
      go_simp
      go_wp2_with (go_at_call 39; refine (HMN.out _ (w6.heap.size) (w6.heap.size + 1) (rC) (rD)).mono ?_; rintro e w8 ⟨rfl, k8⟩)
      have J8 : Kept w5.heap.size w5.heap.size w5 w8 := KC.trans (k8.mono KC.size (fun i hi _ => Nat.ne_of_lt (Nat.lt_of_lt_of_le hi KC.size)))
      refine hK.out _ _ (J8) (fun hH => ?_)
      clear hK K
      refine wpAnyH_done (by kernel_rfl) ?_ _
      refine NoPanic.normal ?_
      have K8 : Kept w1.heap.size w1.heap.size w1 w8 := K5.trans (J8.mono K5.size (fun i hi _ => by have := K5.size; omega))
      have r8 : w8.heap[wm]? = some (.cells cu 26 (0, 0)) := (J8.block wm (lt_of_block R5.out) (Nat.ne_of_lt (lt_of_block R5.out))).trans R5.out
      have R8 := Lib.hid r8
      clear r8
      go_upto_region 3 with fail
      refine wp_region_lit ?_
      refine wpList_load_row_g ?hwl2 26 _ rfl (wm) rfl 26 cu (0, 0) _ (R8.out) Try.underlying26 rfl HIU.out ?_
      case hwl2 => kernel_rfl
      simp only [Act.put, List.setIfInBounds_toArray, List.set_cons_zero, List.set_cons_succ]
      refine wpList_store_row rfl 26 _ _ rfl (wa + 1) cu rfl rfl 26 zeros32 (HROW.out w8 K8) HIU.out HZU.out HALL.out ?_
      simp only [Act.put]
      have HMM := HM.out
      have t2 := setRow_heap w8 (wa + 1) zeros32 cu _ _ (HROW.out w8 K8)
      have t1 : Kept w.heap.size w.heap.size w (w8.setRow (wa + 1) cu) := by
        have e1 := HWA.out
        have e2 := HS1.out
        refine Kept.trans (w2 := w8) ?_ ⟨rfl, rfl, rfl, by simp [World.setRow], fun k hk _ => setRow_other w8 (wa + 1) k cu (by omega)⟩
        rw [← e1]
        exact HK1.out.trans (K8.mono (by omega) (fun k hk _ => by omega))
      have hiu := HIU.out
      go_wp2_with fail
      refine bodyPost_ret (results_cell_row rfl _ _ (wa + 1) 26 cu (0, 0) _ rfl t2 Try.underlying26 rfl hiu) rfl ?_
      exact ⟨by rw [HMM, Hcu.out], t1⟩
    · refine AllReadyH.cons rfl (fun K hK => ?_) AllReadyH.nil
      rw [if_pos (by rfl)]
      refine wp_build_one _ 23 26 rfl i0 z0 Try.underlying23 HI0.out HZ0.out cm rfl (by rw [HS0.out]; exact HMZ.out) (by rw [HS0.out]; decide) (by rw [HS0.out]; decide) ?_
      simp only [Act.put, List.setIfInBounds_toArray]
      have KA : Kept w5.heap.size w5.heap.size w5 (w6.alloc (.cells cm 26)) := KB.alloc KB.size _
      have rA : (w6.alloc (.cells cm 26)).heap[w6.heap.size]? = some (.cells cm 26 (0, 0)) := heap_new _ _
      refine hK.out _ _ (KA) (fun hH => ?_)
      clear hK K
      refine wpAnyH_ready (rs := [2]) (by kernel_rfl) (by simp) ?_
      refine AllReadyH.cons rfl (fun K hK => ?_) AllReadyH.nil
      rw [if_pos (by rfl)]
      refine wp_build_one _ 23 26 rfl i0 z0 Try.underlying23 HI0.out HZ0.out kc rfl (by rw [HS0.out]; exact HK32.out) (by rw [HS0.out]; decide) (by rw [HS0.out]; decide) ?_
      simp only [Act.put]
      have KC : Kept w5.heap.size w5.heap.size w5 ((w6.alloc (.cells cm 26)).alloc (.cells kc 26)) := KA.alloc KA.size _
      have rC : ((w6.alloc (.cells cm 26)).alloc (.cells kc 26)).heap[w6.heap.size]? = some (.cells cm 26 (0, 0)) := by rw [Below.heap_alloc _ _ _ (lt_of_block rA)]; exact rA
      refine hK.out _ _ (KC) (fun hH => ?_)
      clear hK K
      have sA : (w6.alloc (.cells cm 26)).heap.size = w6.heap.size + 1 := by simp
      have rD : ((w6.alloc (.cells cm 26)).alloc (.cells kc 26)).heap[w6.heap.size + 1]? = some (.cells kc 26 (0, 0)) := by rw [← sA]; exact heap_new _ _
      refine wpAnyH_ready (rs := [6]) (by kernel_rfl) (by simp) ?_
      refine AllReadyH.cons rfl (fun K hK => ?_) AllReadyH.nil
      rw [if_pos (by rfl)]
      go_simp
      go_wp2_with (go_at_call 39; refine (HMN.out _ (w6.heap.size + 1) (w6.heap.size) (rD) (rC)).mono ?_; rintro e w8 ⟨rfl, k8⟩)
      have J8 : Kept w5.heap.size w5.heap.size w5 w8 := KC.trans (k8.mono KC.size (fun i hi _ => Nat.ne_of_lt (Nat.lt_of_lt_of_le hi KC.size)))
      refine hK.out _ _ (J8) (fun hH => ?_)
      clear hK K
      refine wpAnyH_done (by kernel_rfl) ?_ _
      refine NoPanic.normal ?_
      have K8 : Kept w1.heap.size w1.heap.size w1 w8 := K5.trans (J8.mono K5.size (fun i hi _ => by have := K5.size; omega))
      have r8 : w8.heap[wm]? = some (.cells cu 26 (0, 0)) := (J8.block wm (lt_of_block R5.out) (Nat.ne_of_lt (lt_of_block R5.out))).trans R5.out
      have R8 := Lib.hid r8
      clear r8
      go_upto_region 3 with fail
      refine wp_region_lit ?_
      refine wpList_load_row_g ?hwl3 26 _ rfl (wm) rfl 26 cu (0, 0) _ (R8.out) Try.underlying26 rfl HIU.out ?_
      case hwl3 => kernel_rfl
      simp only [Act.put, List.setIfInBounds_toArray, List.set_cons_zero, List.set_cons_succ]
      refine wpList_store_row rfl 26 _ _ rfl (wa + 1) cu rfl rfl 26 zeros32 (HROW.out w8 K8) HIU.out HZU.out HALL.out ?_
      simp only [Act.put]
      have HMM := HM.out
      have t2 := setRow_heap w8 (wa + 1) zeros32 cu _ _ (HROW.out w8 K8)
      have t1 : Kept w.heap.size w.heap.size w (w8.setRow (wa + 1) cu) := by
        have e1 := HWA.out
        have e2 := HS1.out
        refine Kept.trans (w2 := w8) ?_ ⟨rfl, rfl, rfl, by simp [World.setRow], fun k hk _ => setRow_other w8 (wa + 1) k cu (by omega)⟩
        rw [← e1]
        exact HK1.out.trans (K8.mono (by omega) (fun k hk _ => by omega))
      have hiu := HIU.out
      go_wp2_with fail
      refine bodyPost_ret (results_cell_row rfl _ _ (wa + 1) 26 cu (0, 0) _ rfl t2 Try.underlying26 rfl hiu) rfl ?_
      exact ⟨by rw [HMM, Hcu.out], t1⟩

end Go.Proofs.Ytohichignjjleaa
