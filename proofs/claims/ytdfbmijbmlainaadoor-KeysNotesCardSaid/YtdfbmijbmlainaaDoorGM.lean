/-
  Keys of keys, and public keys, without a book.
-/
import Derived.Test.YtdfbmijbmlainaaDoorGL
import Derived.Test.YtdfbmijbmlainaaDoorGF
import Derived.Test.YtdfbmijbmlainaaDoorGH

namespace Go.Proofs.YtdfbmijbmlainaaDoor
open Go.RowKit Go.Lib

theorem keyInfo {l : List UInt8} (h : l.length = 32) : (Tryd.prog.info? 23).map (·.size) = some (bcells l).toArray.size := by rw [shaInfo30, List.size_toArray, bcells_length, h]
theorem keySize {l : List UInt8} (h : l.length = 32) : zeros32.size = (bcells l).toArray.size := by rw [zeros32_size, List.size_toArray, bcells_length, h]

/-- A slice built of one array, as an operation. -/
theorem wp_build_one {P : Program} {o : Oper} {a : Act} {w : World} {K : Act → World → Prop} {Q : Exit → Act → World → Prop} (x : Operand) (t e : TypeId) (ho : o.op = .buildSlice t 1 #[(0, x)]) (i : TypeInfo) (z : Value) (ht : P.underlying t = some (.slice e)) (hi : P.info? e = some i) (hz : i.zero = some z)
    (cs : Array Value) (hx : a.eval x = .agg cs) (hs : cs.size = i.size) (hpos : 0 < i.size) (hmax : i.size ≤ 16777216) (hk : K (a.put o.dst (.slice (some ⟨w.heap.size, 0, none⟩) 1 1)) (w.alloc (.cells cs e))) : o.wp P a w K Q := by
  have hr := run_build_one (P := P) w t e i z ht hi hz cs hs hpos hmax
  unfold Oper.wp execOp
  simp only [ho, List.map_toArray, List.map_cons, List.map_nil, hx, Sem.run_bind, hr, Result.andThen_ok, Sem.run_pure]
  exact hk

set_option maxRecDepth 100000 in
set_option maxHeartbeats 3200000 in
theorem pnote_nil (f : List (List UInt8) × List (List UInt8)) (a b : Value) (w : World) (ha : Hs w a f.1) (hb : Hs w b f.2) : Calls Tryd.prog 47 #[.pointer none, a, b] w fun e w' => e = .returned (.tuple #[]) ∧ Kept w.heap.size w.heap.size w w' := by
  have hn := note_nil f a b w ha hb
  generalize (if f.2.length = 0 then (1 : Int) else 0) = E at hn
  obtain ⟨zp1, aad, ag, ao, ac, rfl, zp2⟩ := id ha
  clear zp1 zp2
  obtain ⟨zp1, bad, bg, bo, bc, rfl, zp2⟩ := id hb
  clear zp1 zp2
  have HN := Lib.hid hn
  clear hn ha hb
  go_enter Tryd.func47, Tryd.ntmps47
  go_wp2_with (go_at_call 66; refine HN.out.mono ?_; rintro e w2 ⟨rfl, k2⟩)
  go_end0
  exact ⟨rfl, k2⟩

set_option maxRecDepth 100000 in
set_option maxHeartbeats 3200000 in
theorem pderive_nil (k : List UInt8) (hk : Hid (k.length = 32)) (label context : ByteArray) (h1 : Hid (label.size < 268435456)) (h2 : Hid (context.size < 268435456)) (w : World) : Calls Tryd.prog 28 #[.pointer none, .agg (bcells k).toArray, .string label, .string context] w fun e w' => e = .returned (.agg (bcells (Mc.derive k label.data.toList context.data.toList)).toArray) ∧ Kept w.heap.size w.heap.size w w' := by
  have hku := keyInfo hk.out
  have hk1 : (bcells k).toArray.size = 32 := by rw [List.size_toArray, bcells_length, hk.out]
  generalize hkc : (bcells k).toArray = kc at hku hk1
  have Hkc := Lib.hid hkc
  have HKI := Lib.hid hku
  have HK32 := Lib.hid hk1
  clear hkc hku hk1
  obtain ⟨i0, z0, hi0, hz0, hzs0, hs0, hb0⟩ := hash_info
  have HI0 := Lib.hid hi0
  have HZ0 := Lib.hid hz0
  have HS0 := Lib.hid hs0
  clear hi0 hz0 hzs0 hs0 hb0
  go_enter Tryd.func28, Tryd.ntmps28
  go_upto_region 1 with fail
  rw [zeros32_eq]
  have hP : ((w.alloc (.cells kc 23)).alloc (.cells zeros32 23)).heap[w.heap.size]? = some (.cells kc 23 (0, 0)) := heap_alloc2_old w _ _
  have hR : ((w.alloc (.cells kc 23)).alloc (.cells zeros32 23)).heap[w.heap.size + 1]? = some (.cells zeros32 23 (0, 0)) := heap_alloc2_last w _ _
  have k1 : Kept w.heap.size w.heap.size w ((w.alloc (.cells kc 23)).alloc (.cells zeros32 23)) := ((Kept.refl _ _ _).alloc (Nat.le_refl _) _).alloc (by simp) _
  have s1 : ((w.alloc (.cells kc 23)).alloc (.cells zeros32 23)).heap.size = w.heap.size + 2 := by simp
  generalize (w.alloc (.cells kc 23)).alloc (.cells zeros32 23) = w1 at hP hR k1 s1 ⊢
  obtain ⟨wa, hwa⟩ : ∃ wa, wa = w.heap.size := ⟨_, rfl⟩
  rw [← hwa] at hP hR k1 s1 ⊢
  have hrow : ∀ w', Kept w1.heap.size w1.heap.size w1 w' → w'.heap[wa + 1]? = some (.cells zeros32 23 (0, 0)) := fun w' kk => (kk.block (wa + 1) (by omega) (by omega)).trans hR
  have hkey : ∀ w', Kept w1.heap.size w1.heap.size w1 w' → w'.heap[wa]? = some (.cells kc 23 (0, 0)) := fun w' kk => (kk.block wa (by omega) (by omega)).trans hP
  have hdv : Calls Tryd.prog 46 #[.agg kc, .string label, .string context] w1 fun e w' => e = .returned (.agg (bcells (Mc.derive k label.data.toList context.data.toList)).toArray) ∧ Kept w1.heap.size w1.heap.size w1 w' := by
    rw [← Hkc.out]
    exact derive_calls k hk label context h1 h2 w1
  have hdl : (Mc.derive k label.data.toList context.data.toList).length = 32 := Mc.derive_length _ _ _
  generalize hM : Mc.derive k label.data.toList context.data.toList = m at hdv hdl
  have HM := Lib.hid hM
  clear hM
  have hiu := keyInfo (l := m) (hdl)
  have hzu := keySize (l := m) (hdl)
  have hcs : (bcells (m)).toArray.size = 32 := by rw [List.size_toArray, bcells_length, hdl]
  have hall := bcells_all (m)
  generalize hcu : (bcells (m)).toArray = cu at hiu hzu hcs hall hdv
  have HIU := Lib.hid hiu
  have HZU := Lib.hid hzu
  have HALL := Lib.hid hall
  have Hcs := Lib.hid hcs
  have Hcu := Lib.hid hcu
  have HROW := Lib.hid hrow
  have HKEY := Lib.hid hkey
  have HK1 := Lib.hid k1
  have HS1 := Lib.hid s1
  have HWA := Lib.hid hwa
  clear hiu hzu hall hcs hcu hrow hkey k1 s1 hwa
  have HDV := Lib.hid hdv
  clear hdv hP hR
  go_upto_region 1 with fail
  refine wp_region_lit ?_
  refine wpList_load_row_g ?hwa0 23 _ rfl (wa) rfl 23 kc (0, 0) _ (HKEY.out _ (Kept.refl _ _ _)) Tryd.underlying23 rfl HKI.out ?_
  case hwa0 => kernel_rfl
  simp only [Act.put, List.setIfInBounds_toArray, List.set_cons_zero, List.set_cons_succ]
  refine @BigFrame.wpList_want _ _ _ _ _ _ _ ?hwa1 ?_
  case hwa1 => kernel_rfl
  intro K hK
  go_simp
  refine hK _ _ ?_
  clear hK K
  refine @BigFrame.wpList_want _ _ _ _ _ _ _ ?hwa2 ?_
  case hwa2 => kernel_rfl
  intro K hK
  go_simp
  refine hK _ _ ?_
  clear hK K
  refine @BigFrame.wpList_want _ _ _ _ _ _ _ ?hwa3 ?_
  case hwa3 => kernel_rfl
  intro K hK
  go_simp
  go_at_call 46; refine HDV.out.mono ?_; rintro e w3 ⟨rfl, k3⟩
  refine hK _ _ ?_
  clear hK K
  refine wpList_alloc_k rfl 23 rfl (alloc_zero _) ?_
  simp only [Act.put, List.setIfInBounds_toArray, List.set_cons_zero, List.set_cons_succ]
  refine wpList_store_row rfl 23 _ _ rfl (w3.heap.size) cu rfl rfl 23 zeros32 (heap_new _ _) HIU.out HZU.out HALL.out ?_
  simp only [Act.put]
  have K4 : Kept w1.heap.size w1.heap.size w1 (w3.alloc (.cells zeros32 23)) := k3.alloc k3.size _
  have K5 : Kept w1.heap.size w1.heap.size w1 ((w3.alloc (.cells zeros32 23)).setRow w3.heap.size cu) := Kept.ofBelow (below_setRow (K4.below (Nat.le_refl _) (Nat.le_refl _)) k3.size cu) (Nat.le_refl _)
  have r5 := setRow_heap (w3.alloc (.cells zeros32 23)) w3.heap.size zeros32 cu _ _ (heap_new _ _)
  generalize (w3.alloc (.cells zeros32 23)).setRow w3.heap.size cu = w5 at K5 r5 ⊢
  have hwm : w1.heap.size ≤ w3.heap.size := k3.size
  generalize w3.heap.size = wm at r5 hwm ⊢
  clear K4
  have KA : Kept w5.heap.size w5.heap.size w5 (w5.alloc (.cells kc 23)) := (Kept.refl _ _ _).alloc (Nat.le_refl _) _
  have KB : Kept w5.heap.size w5.heap.size w5 ((w5.alloc (.cells kc 23)).alloc (.cells cu 23)) := KA.alloc KA.size _
  have sA : (w5.alloc (.cells kc 23)).heap.size = w5.heap.size + 1 := by simp
  have hN := pnote_nil ([k], [m]) (.slice (some ⟨w5.heap.size, 0, none⟩) 1 1) (.slice (some ⟨w5.heap.size + 1, 0, none⟩) 1 1) ((w5.alloc (.cells kc 23)).alloc (.cells cu 23)) (hs_one hk.out (by rw [Hkc.out, Below.heap_alloc _ _ _ (by omega)]; exact heap_new _ _)) (hs_one hdl (by rw [Hcu.out, ← sA]; exact heap_new _ _))
  have rA : (w5.alloc (.cells kc 23)).heap[wm]? = some (.cells cu 23 (0, 0)) := (KA.block wm (lt_of_block r5) (Nat.ne_of_lt (lt_of_block r5))).trans r5
  have HN := Lib.hid hN
  have RA := Lib.hid rA
  have R5 := Lib.hid r5
  have HKA := Lib.hid KA
  have HKB := Lib.hid KB
  have rk := HKEY.out w5 K5
  have RK := Lib.hid rk
  clear hN rA r5 KA KB sA rk
  go_upto_region 2 with fail
  refine wp_region_lit ?_
  refine @BigFrame.wpList_want _ _ _ _ _ _ _ ?hwb0 ?_
  case hwb0 => kernel_rfl
  intro K hK
  go_simp
  refine hK _ _ ?_
  clear hK K
  refine wpList_load_row_g ?hwb1 23 _ rfl (wa) rfl 23 kc (0, 0) _ (RK.out) Tryd.underlying23 rfl HKI.out ?_
  case hwb1 => kernel_rfl
  simp only [Act.put, List.setIfInBounds_toArray, List.set_cons_zero, List.set_cons_succ]
  refine wpList_build_one_g ?hwb2 _ 51 23 rfl i0 z0 Tryd.underlying51 HI0.out HZ0.out kc rfl (by rw [HS0.out]; exact HK32.out) (by rw [HS0.out]; decide) (by rw [HS0.out]; decide) ?_
  case hwb2 => kernel_rfl
  simp only [Act.put, List.setIfInBounds_toArray, List.set_cons_zero, List.set_cons_succ]
  refine wpList_load_row_g ?hwb3 23 _ rfl (wm) rfl 23 cu (0, 0) _ (RA.out) Tryd.underlying23 rfl HIU.out ?_
  case hwb3 => kernel_rfl
  simp only [Act.put, List.setIfInBounds_toArray, List.set_cons_zero, List.set_cons_succ]
  refine wpList_build_one_g ?hwb4 _ 51 23 rfl i0 z0 Tryd.underlying51 HI0.out HZ0.out cu rfl (by rw [HS0.out]; exact Hcs.out) (by rw [HS0.out]; decide) (by rw [HS0.out]; decide) ?_
  case hwb4 => kernel_rfl
  simp only [Act.put, List.setIfInBounds_toArray, List.set_cons_zero, List.set_cons_succ]
  refine @BigFrame.wpList_want _ _ _ _ _ _ _ ?hwb5 ?_
  case hwb5 => kernel_rfl
  intro K hK
  go_simp
  go_at_call 47; refine HN.out.mono ?_; rintro e w8 ⟨rfl, k8⟩
  refine hK _ _ ?_
  clear hK K
  have J8 : Kept w5.heap.size w5.heap.size w5 w8 := HKB.out.trans (k8.mono HKB.out.size (fun i hi _ => by have := HKB.out.size; omega))
  have K8 : Kept w1.heap.size w1.heap.size w1 w8 := K5.trans (J8.mono K5.size (fun i hi _ => by have := K5.size; omega))
  have r8 : w8.heap[wm]? = some (.cells cu 23 (0, 0)) := (J8.block wm (lt_of_block R5.out) (Nat.ne_of_lt (lt_of_block R5.out))).trans R5.out
  have R8 := Lib.hid r8
  clear r8 J8 k8
  go_upto_region 3 with fail
  refine wp_region_lit ?_
  refine wpList_load_row_g ?hwc0 23 _ rfl (wm) rfl 23 cu (0, 0) _ (R8.out) Tryd.underlying23 rfl HIU.out ?_
  case hwc0 => kernel_rfl
  simp only [Act.put, List.setIfInBounds_toArray, List.set_cons_zero, List.set_cons_succ]
  refine wpList_store_row rfl 23 _ _ rfl (wa + 1) cu rfl rfl 23 zeros32 (HROW.out w8 K8) HIU.out HZU.out HALL.out ?_
  simp only [Act.put]
  have HMM := HM.out
  have t2 := setRow_heap w8 (wa + 1) zeros32 cu _ _ (HROW.out w8 K8)
  have t1 : Kept w.heap.size w.heap.size w (w8.setRow (wa + 1) cu) := by
    have e1 := HWA.out
    have e2 := HS1.out
    refine Kept.trans (w2 := w8) ?_ ⟨rfl, rfl, rfl, by simp [World.setRow], fun k hk _ => setRow_other w8 (wa + 1) k cu (by omega)⟩
    rw [← e1]
    exact HK1.out.trans (K8.mono (by omega) (fun k hk _ => by omega))
  have hiu := HIU.out
  go_wp2_with fail
  refine bodyPost_ret (results_cell_row rfl _ _ (wa + 1) 23 cu (0, 0) _ rfl t2 Tryd.underlying23 rfl hiu) rfl ?_
  exact ⟨by rw [HMM, Hcu.out], t1⟩

end Go.Proofs.YtdfbmijbmlainaaDoor
