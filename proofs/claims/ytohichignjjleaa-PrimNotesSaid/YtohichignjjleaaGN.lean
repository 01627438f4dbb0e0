/-
  PrimTag; PrimMask; PrimSeal; PrimOpen; PrimUnwrap; PrimWrap; PrimAwake: several texts in one.
-/
import Derived.Test.YtohichignjjleaaGM
import Derived.StillTailTactics
import Derived.Laws.CopyRow
import Derived.Test.YtohichignjjleaaGL
import Derived.Test.YtohichignjjleaaGI
import Derived.Test.YtohichignjjleaaGB
import Derived.Deep.OwnRows

namespace Go.Proofs.Ytohichignjjleaa
open Go.RowKit Go.Lib

def zeros16 : Array Value := (bcells (List.replicate 16 0)).toArray
theorem zeros16_eq : #[Value.int IntKind.u8 0, Value.int IntKind.u8 0, Value.int IntKind.u8 0, Value.int IntKind.u8 0, Value.int IntKind.u8 0, Value.int IntKind.u8 0, Value.int IntKind.u8 0, Value.int IntKind.u8 0, Value.int IntKind.u8 0, Value.int IntKind.u8 0, Value.int IntKind.u8 0, Value.int IntKind.u8 0, Value.int IntKind.u8 0, Value.int IntKind.u8 0, Value.int IntKind.u8 0, Value.int IntKind.u8 0] = zeros16 := rfl
theorem zeros16_size : zeros16.size = 16 := rfl
theorem alloc_zero16 (w : World) : (Instr.alloc 93 true (.tuple #[])).run Try.prog w = .ok (.pointer (some ⟨w.heap.size, 0, none⟩)) (w.alloc (.cells zeros16 93)) := by
  rw [← zeros16_eq]
  kernel_rfl
theorem tagInfo : (Try.prog.info? 93).map (·.size) = some 16 := by kernel_rfl
theorem byteInfo1 : (Try.prog.info? 5).map (·.size) = some 1 := by kernel_rfl

set_option maxRecDepth 100000 in
set_option maxHeartbeats 3200000 in
theorem tagof_calls (k : List UInt8) (hk : Hid (k.length = 32)) (about c : ByteArray) (h1 : Hid (about.size < 268435456)) (h2 : Hid (c.size < 268435456)) (w : World) : Calls Try.prog 46 #[.agg (bcells k).toArray, .string about, .string c] w fun e w' => e = .returned (.agg (bcells (Pm.tag k about.data.toList c.data.toList)).toArray) ∧ Kept w.heap.size w.heap.size w w' := by
  have hku := keyInfo hk.out
  generalize hkc : (bcells k).toArray = kc at hku
  have Hkc := Lib.hid hkc
  have HKI := Lib.hid hku
  have hd1 : ∀ w', Calls Try.prog 38 #[.agg kc, .string ⟨#[116, 97, 103]⟩, .string ⟨#[]⟩] w' fun e w'' => e = .returned (.agg (bcells (Pm.tagKey k)).toArray) ∧ Kept w'.heap.size w'.heap.size w' w'' := fun w' => by
    rw [← Hkc.out]
    exact derive_calls k hk ⟨#[116, 97, 103]⟩ ⟨#[]⟩ (Lib.hid (by decide)) (Lib.hid (by decide)) w'
  have hd2 : ∀ w', Calls Try.prog 38 #[.agg (bcells (Pm.tagKey k)).toArray, .string about, .string c] w' fun e w'' => e = .returned (.agg (bcells (Mc.derive (Pm.tagKey k) about.data.toList c.data.toList)).toArray) ∧ Kept w'.heap.size w'.heap.size w' w'' := fun w' => derive_calls (Pm.tagKey k) (Lib.hid (Pm.tagKey_length k)) about c h1 h2 w'
  have hml : (Mc.derive (Pm.tagKey k) about.data.toList c.data.toList).length = 32 := Mc.derive_length _ _ _
  have htg : Pm.tag k about.data.toList c.data.toList = (Mc.derive (Pm.tagKey k) about.data.toList c.data.toList).take 16 := rfl
  rw [htg]
  generalize Mc.derive (Pm.tagKey k) about.data.toList c.data.toList = m at hd2 hml ⊢
  have htl : (m.take 16).length = 16 := by rw [List.length_take, hml]; rfl
  have hui := keyInfo hml
  have huz := keySize hml
  have hua := bcells_all m
  have hti : (Try.prog.info? 93).map (·.size) = some (bcells (m.take 16)).toArray.size := by rw [tagInfo, List.size_toArray, bcells_length, htl]
  have htz : zeros16.size = (bcells (m.take 16)).toArray.size := by rw [zeros16_size, List.size_toArray, bcells_length, htl]
  have hta := bcells_all (m.take 16)
  generalize (bcells (Pm.tagKey k)).toArray = ck at hd1 hd2
  generalize hcu : (bcells m).toArray = cu at hd2 hui huz hua
  generalize hct : (bcells (m.take 16)).toArray = ct at hti htz hta
  have HCU := Lib.hid hcu
  have HCT := Lib.hid hct
  have HD1 := Lib.hid hd1
  have HD2 := Lib.hid hd2
  have HML := Lib.hid hml
  have HTL := Lib.hid htl
  have HUI := Lib.hid hui
  have HUZ := Lib.hid huz
  have HUA := Lib.hid hua
  have HTI := Lib.hid hti
  have HTZ := Lib.hid htz
  have HTA := Lib.hid hta
  clear hkc hku hd1 hd2 hml htl hui huz hua hti htz hta htg hcu hct
  go_enter Try.func46, Try.ntmps46
  go_upto_region 1 with fail
  rw [zeros16_eq]
  have hP : ((w.alloc (.cells kc 26)).alloc (.cells zeros16 93)).heap[w.heap.size]? = some (.cells kc 26 (0, 0)) := heap_alloc2_old w _ _
  have hR : ((w.alloc (.cells kc 26)).alloc (.cells zeros16 93)).heap[w.heap.size + 1]? = some (.cells zeros16 93 (0, 0)) := heap_alloc2_last w _ _
  have k1 : Kept w.heap.size w.heap.size w ((w.alloc (.cells kc 26)).alloc (.cells zeros16 93)) := ((Kept.refl _ _ _).alloc (Nat.le_refl _) _).alloc (by simp) _
  have s1 : ((w.alloc (.cells kc 26)).alloc (.cells zeros16 93)).heap.size = w.heap.size + 2 := by simp
  generalize (w.alloc (.cells kc 26)).alloc (.cells zeros16 93) = w1 at hP hR k1 s1 ⊢
  obtain ⟨wa, hwa⟩ : ∃ wa, wa = w.heap.size := ⟨_, rfl⟩
  rw [← hwa] at hP hR k1 s1 ⊢
  have hrow : ∀ w', Kept w1.heap.size w1.heap.size w1 w' → w'.heap[wa + 1]? = some (.cells zeros16 93 (0, 0)) := fun w' kk => (kk.block (wa + 1) (by omega) (by omega)).trans hR
  have HROW := Lib.hid hrow
  have HP := Lib.hid hP
  have HK1 := Lib.hid k1
  have HS1 := Lib.hid s1
  have HWA := Lib.hid hwa
  clear hrow hP k1 s1 hwa hR
  refine wp_region_lit ?_
  refine wpList_load_row_g ?hwa0 26 _ rfl (wa) rfl 26 kc (0, 0) _ (HP.out) Try.underlying26 rfl HKI.out ?_
  case hwa0 => kernel_rfl
  simp only [Act.put, List.setIfInBounds_toArray, List.set_cons_zero, List.set_cons_succ]
  refine @BigFrame.wpList_want _ _ _ _ _ _ _ ?hwa1 ?_
  case hwa1 => kernel_rfl
  intro K hK
  go_simp
  go_at_call 38; refine (HD1.out _).mono ?_; rintro e w2 ⟨rfl, k2⟩
  refine hK _ _ ?_
  clear hK K
  refine @BigFrame.wpList_want _ _ _ _ _ _ _ ?hwa2 ?_
  case hwa2 => kernel_rfl
  intro K hK
  go_simp
  refine hK _ _ ?_
  clear hK K
  refine @BigFrame.wpList_want _ _ _ _ _ _ _ ?hwa3 ?_
  case hwa3 => kernel_rfl
  intro K hK
  go_simp
  refine hK _ _ ?_
  clear hK K
  refine @BigFrame.wpList_want _ _ _ _ _ _ _ ?hwa4 ?_
  case hwa4 => kernel_rfl
  intro K hK
  go_simp
  go_at_call 38; refine (HD2.out _).mono ?_; rintro e w3 ⟨rfl, k3⟩
  refine hK _ _ ?_
  clear hK K
  have K3 : Kept w1.heap.size w1.heap.size w1 w3 := k2.trans (k3.mono k2.size (fun i hi _ => by have := k2.size; omega))
  refine wpList_alloc_k rfl 26 rfl (alloc_zero _) ?_
  simp only [Act.put, List.setIfInBounds_toArray, List.set_cons_zero, List.set_cons_succ]
  refine wpList_store_row rfl 26 _ _ rfl (w3.heap.size) cu rfl rfl 26 zeros32 (heap_new _ _) HUI.out HUZ.out HUA.out ?_
  simp only [Act.put]
  have K4 : Kept w1.heap.size w1.heap.size w1 (w3.alloc (.cells zeros32 26)) := K3.alloc K3.size _
  have K5 : Kept w1.heap.size w1.heap.size w1 ((w3.alloc (.cells zeros32 26)).setRow w3.heap.size cu) := Kept.ofBelow (below_setRow (K4.below (Nat.le_refl _) (Nat.le_refl _)) K3.size cu) (Nat.le_refl _)
  have r5 := setRow_heap (w3.alloc (.cells zeros32 26)) w3.heap.size zeros32 cu _ _ (heap_new _ _)
  generalize (w3.alloc (.cells zeros32 26)).setRow w3.heap.size cu = w5 at K5 r5 ⊢
  generalize w3.heap.size = wc at r5 ⊢
  clear K4
  go_upto_region 2 with fail
  refine wp_region_lit ?_
  refine wpList_alloc_k rfl 93 rfl (alloc_zero16 _) ?_
  simp only [Act.put, List.setIfInBounds_toArray, List.set_cons_zero, List.set_cons_succ]
  have K6 : Kept w1.heap.size w1.heap.size w1 (w5.alloc (.cells zeros16 93)) := K5.alloc K5.size _
  have r6 : (w5.alloc (.cells zeros16 93)).heap[wc]? = some (.cells cu 26 (0, 0)) := by rw [Below.heap_alloc _ _ _ (lt_of_block r5)]; exact r5
  have t6 : (w5.alloc (.cells zeros16 93)).heap[w5.heap.size]? = some (.cells zeros16 93 (0, 0)) := heap_new _ _
  have hwt : w1.heap.size ≤ w5.heap.size := K5.size
  generalize w5.alloc (.cells zeros16 93) = w6 at K6 r6 t6 ⊢
  generalize w5.heap.size = wt at t6 hwt ⊢
  have R6 := Lib.hid r6
  have T6 := Lib.hid t6
  have HK6 := Lib.hid K6
  have HWT := Lib.hid hwt
  clear r5 K5 K3 k2 k3 r6 t6 K6 hwt
  go_upto_region 3 with fail
  refine wp_region_still_tail 2 (by kernel_rfl) (by kernel_rfl) ?_
  simp only [List.take_succ_cons, List.take_zero, List.drop_succ_cons, List.drop_zero]
  generalize hw9 : ({ heap := w6.heap, tape := w6.tape, drawn := w6.drawn + 1, os := w6.os, output := w6.output } : World) = wd
  have r7 : wd.heap[wc]? = some (.cells cu 26 (0, 0)) := by rw [← hw9]; exact R6.out
  have t7 : wd.heap[wt]? = some (.cells zeros16 93 (0, 0)) := by rw [← hw9]; exact T6.out
  have K7 : Kept w1.heap.size w1.heap.size w1 wd := by rw [← hw9]; exact HK6.out.drew
  have hcp := run_copy_row (P := Try.prog) wd 45 45 3 5 wt 0 16 16 ⟨wc, 0, none⟩ 32 32 zeros16 93 (bcells (m.take 16)) Try.underlying45 byteInfo1 t7 (by rw [bcells_length, HTL.out]; rfl) (fun j v hj => by
    rw [Addr.add_lit]
    have hj2 : j < 16 := by
      have := (List.getElem?_eq_some_iff.1 hj).1
      rw [bcells_length, HTL.out] at this
      exact this
    have hj3 : (bcells m)[j]? = some v := by
      rw [← hj]
      simp [bcells, hj2]
    have r7b := r7
    rw [← HCU.out] at r7b
    rw [Nat.zero_add]
    exact cells_get r7b hj3) (by rw [bcells_length, HTL.out, zeros16_size]; decide) (bcells_one _)
  have hrw : (zeros16.toList.take 0 ++ bcells (m.take 16) ++ zeros16.toList.drop (0 + (bcells (m.take 16)).length)).toArray = ct := by
    rw [List.take_zero, List.nil_append, Nat.zero_add, bcells_length, HTL.out, List.drop_of_length_le (by rw [Array.length_toList, zeros16_size]; decide), List.append_nil, HCT.out]
  rw [hrw] at hcp
  have t8 := setRow_heap wd wt zeros16 ct _ _ t7
  have K8 : Kept w1.heap.size w1.heap.size w1 (wd.setRow wt ct) := Kept.ofBelow (below_setRow (K7.below (Nat.le_refl _) (Nat.le_refl _)) HWT.out ct) (Nat.le_refl _)
  generalize wd.setRow wt ct = w8 at hcp t8 K8
  have Hcp := Lib.hid hcp
  have T8 := Lib.hid t8
  have HK8 := Lib.hid K8
  clear hw9 r7 t7 K7 hcp hrw t8 K8
  iterate 2 still_step
  refine wpStill_nil ?_
  go_wp2_with fail
  rw [Hcp.out]
  go_upto_region 4 with fail
  refine wp_region_lit ?_
  refine wpList_load_row_g ?hwc0 93 _ rfl (wt) rfl 93 ct (0, 0) _ (T8.out) Try.underlying93 rfl HTI.out ?_
  case hwc0 => kernel_rfl
  simp only [Act.put, List.setIfInBounds_toArray, List.set_cons_zero, List.set_cons_succ]
  refine wpList_store_row rfl 93 _ _ rfl (wa + 1) ct rfl rfl 93 zeros16 (HROW.out w8 HK8.out) HTI.out HTZ.out HTA.out ?_
  simp only [Act.put]
  have t2 := setRow_heap w8 (wa + 1) zeros16 ct _ _ (HROW.out w8 HK8.out)
  have t1 : Kept w.heap.size w.heap.size w (w8.setRow (wa + 1) ct) := by
    have e1 := HWA.out
    have e2 := HS1.out
    refine Kept.trans (w2 := w8) ?_ ⟨rfl, rfl, rfl, by simp [World.setRow], fun k hk _ => setRow_other w8 (wa + 1) k ct (by omega)⟩
    rw [← e1]
    exact HK1.out.trans (HK8.out.mono (by omega) (fun k hk _ => by omega))
  have hti := HTI.out
  go_wp2_with fail
  refine bodyPost_ret (results_cell_row rfl _ _ (wa + 1) 93 ct (0, 0) _ rfl t2 Try.underlying93 rfl hti) rfl ?_
  exact ⟨rfl, t1⟩

end Go.Proofs.Ytohichignjjleaa

namespace Go.Proofs.Ytohichignjjleaa
open Go.RowKit

theorem stream_any (k : List UInt8) (hk : Hid (k.length = 32)) (n : Nat) (h2 : Hid (n ≤ 65536)) (w : World) : Calls Try.prog 75 #[.agg (bcells k).toArray, .int .i64 (n : Int)] w fun e w' => e = .returned (.string (str (Mc.stream k n))) ∧ Kept w.heap.size w.heap.size w w' := by
  by_cases h0 : n = 0
  · subst h0
    rw [Mc.stream_zero]
    exact stream_none k ((0 : Nat) : Int) (.inl (by decide)) w
  · exact stream_calls k hk n (Lib.hid (by omega)) h2 w
theorem maskInfo : (Try.prog.info? 5).map (·.size) = some 1 := by kernel_rfl
/-- So far put over, and the row behind it. -/
def mixed (s st : List UInt8) (j : Nat) : List UInt8 := Pm.both (s.take j) (st.take j) ++ st.drop j
theorem mixed_zero (s st : List UInt8) : mixed s st 0 = st := by simp [mixed, Pm.both]
theorem mixed_all (s st : List UInt8) (h : s.length = st.length) : mixed s st s.length = Pm.both s st := by
  rw [mixed, List.take_of_length_le (Nat.le_refl _), h, List.take_of_length_le (Nat.le_refl _), List.drop_of_length_le (Nat.le_refl _), List.append_nil]
theorem both_take_length (s st : List UInt8) (h : s.length = st.length) (j : Nat) (hj : j ≤ s.length) : (Pm.both (s.take j) (st.take j)).length = j := by
  rw [Pm.both_length _ _ (by rw [List.length_take, List.length_take, h]), List.length_take]
  omega
theorem mixed_length (s st : List UInt8) (h : s.length = st.length) (j : Nat) (hj : j ≤ s.length) : (mixed s st j).length = s.length := by
  rw [mixed, List.length_append, both_take_length s st h j hj, List.length_drop]
  omega
theorem mixed_at (s st : List UInt8) (h : s.length = st.length) (j : Nat) (hj : j < s.length) : (mixed s st j)[j]? = some (st[j]'(by omega)) := by
  rw [mixed, List.getElem?_append_right (by rw [both_take_length s st h j (by omega)]; exact Nat.le_refl _), both_take_length s st h j (by omega), Nat.sub_self, List.getElem?_drop, Nat.add_zero, List.getElem?_eq_getElem]
theorem mixed_more (s st : List UInt8) (h : s.length = st.length) (j : Nat) (hj : j < s.length) : mixed s st (j + 1) = (mixed s st j).set j (st[j]'(by omega) ^^^ s[j]) := by
  have hl := both_take_length s st h j (by omega)
  have hd : st.drop j = st[j]'(by omega) :: st.drop (j + 1) := by rw [List.drop_eq_getElem_cons]
  rw [mixed, mixed, hd, List.set_append_right _ _ (by omega), hl, Nat.sub_self, List.set_cons_zero, List.take_succ_eq_append_getElem hj, List.take_succ_eq_append_getElem (show j < st.length by omega), Pm.both, List.zipWith_append (by rw [List.length_take, List.length_take, h])]
  rw [List.append_assoc]
  congr 1
  simp [UInt8.xor_comm]

set_option maxRecDepth 100000 in
set_option maxHeartbeats 3200000 in
theorem masked_calls (k : List UInt8) (hk : Hid (k.length = 32)) (s : List UInt8) (hs : Hid (s.length ≤ 65536)) (w : World) : Calls Try.prog 45 #[.agg (bcells k).toArray, .string (str s)] w fun e w' => ∃ g, e = .returned (.slice (some ⟨g, 0, none⟩) s.length s.length) ∧ w.heap.size ≤ g ∧ w'.heap[g]? = some (.cells (bcells (Pm.cross k s)).toArray 5 (0, 0)) ∧ Kept w.heap.size w.heap.size w w' := by
  have hku : (Try.prog.info? 26).map (·.size) = some (bcells k).toArray.size := by rw [shaInfo30, List.size_toArray, bcells_length, hk.out]
  generalize hkc : (bcells k).toArray = kc at hku
  have Hkc := Lib.hid hkc
  have HKI := Lib.hid hku
  obtain ⟨st, hst⟩ : ∃ st, st = Mc.stream (Pm.under k) s.length := ⟨_, rfl⟩
  have hstl : s.length = st.length := by rw [hst, Mc.stream_length]
  have hcr : Pm.cross k s = Pm.both s st := by rw [Pm.cross, hst]
  obtain ⟨sx, hsx⟩ : ∃ sx, sx = str s := ⟨_, rfl⟩
  have hsl : s.length = sx.size := by rw [hsx, str_size]
  have hsj : ∀ j (h1 : j < sx.size) (h2 : j < s.length), sx[j]'h1 = s[j] := fun j h1 h2 => by subst hsx; rfl
  have hdv : ∀ w', Calls Try.prog 38 #[.agg kc, .string ⟨#[115, 116, 114, 101, 97, 109]⟩, .string ⟨#[]⟩] w' fun e w'' => e = .returned (.agg (bcells (Pm.under k)).toArray) ∧ Kept w'.heap.size w'.heap.size w' w'' := fun w' => by
    rw [← Hkc.out]
    exact derive_calls k hk ⟨#[115, 116, 114, 101, 97, 109]⟩ ⟨#[]⟩ (Lib.hid (by decide)) (Lib.hid (by decide)) w'
  have hsr : ∀ w', Calls Try.prog 75 #[.agg (bcells (Pm.under k)).toArray, .int .i64 (sx.size : Int)] w' fun e w'' => e = .returned (.string (str st)) ∧ Kept w'.heap.size w'.heap.size w' w'' := fun w' => by
    rw [hst, hsl]
    exact stream_any (Pm.under k) (Lib.hid (Pm.under_length k)) sx.size (Lib.hid (by rw [← hsl]; exact hs.out)) w'
  have hn64 : sx.size ≤ 65536 := by rw [← hsl]; exact hs.out
  generalize (bcells (Pm.under k)).toArray = cu at hdv hsr
  rw [← hsx, hcr, hsl]
  obtain ⟨i8, hi8, hz8, hs8, hb8⟩ := sha_u8
  have HI8 := Lib.hid hi8
  have HZ8 := Lib.hid hz8
  have HS8 := Lib.hid hs8
  have HB8 := Lib.hid hb8
  have HDV := Lib.hid hdv
  have HSR := Lib.hid hsr
  have HSL := Lib.hid hsl
  have HSTL := Lib.hid hstl
  have HSJ := Lib.hid hsj
  clear hkc hku hst hcr hsx hdv hsr hi8 hz8 hs8 hb8 hsl hstl hsj
  go_enter Try.func45, Try.ntmps45
  go_upto_region 1 with fail
  have hP : (w.alloc (.cells kc 26)).heap[w.heap.size]? = some (.cells kc 26 (0, 0)) := heap_new _ _
  have k1 : Kept w.heap.size w.heap.size w (w.alloc (.cells kc 26)) := (Kept.refl _ _ _).alloc (Nat.le_refl _) _
  generalize w.alloc (.cells kc 26) = w1 at hP k1 ⊢
  obtain ⟨wa, hwa⟩ : ∃ wa, wa = w.heap.size := ⟨_, rfl⟩
  rw [← hwa] at hP ⊢
  have HWA := Lib.hid hwa
  clear hwa
  refine wp_region_lit ?_
  refine @BigFrame.wpList_want _ _ _ _ _ _ _ ?hwa0 ?_
  case hwa0 => kernel_rfl
  intro K hK
  go_simp
  refine hK _ _ ?_
  clear hK K
  refine @BigFrame.wpList_want _ _ _ _ _ _ _ ?hwa1 ?_
  case hwa1 => kernel_rfl
  intro K hK
  go_simp
  refine hK _ _ ?_
  clear hK K
  refine wpList_make_row w1 rfl _ _ 45 rfl 5 i8 (.int .u8 0) Try.underlying45 HI8.out HZ8.out HS8.out rfl .i64 .i64 sx.size rfl rfl (by rw [HB8.out]; omega) (by omega) ?_
  simp only [Act.put, List.setIfInBounds_toArray, List.set_cons_zero, List.set_cons_succ]
  refine @BigFrame.wpList_want _ _ _ _ _ _ _ ?hwa3 ?_
  case hwa3 => kernel_rfl
  intro K hK
  go_simp
  refine hK _ _ ?_
  clear hK K
  have hG : (w1.alloc (.cells (madeCells #[.int .u8 0] sx.size) 5)).heap[w1.heap.size]? = some (.cells (madeCells #[.int .u8 0] sx.size) 5 (0, 0)) := heap_new _ _
  have k2 : Kept w1.heap.size w1.heap.size w1 (w1.alloc (.cells (madeCells #[.int .u8 0] sx.size) 5)) := (Kept.refl _ _ _).alloc (Nat.le_refl _) _
  have hmc : (madeCells #[Value.int .u8 0] sx.size).size = sx.size := size_madeCells _ _
  have hP2 := (k2.block _ (lt_of_block hP) (Nat.ne_of_lt (lt_of_block hP))).trans hP
  generalize madeCells #[Value.int .u8 0] sx.size = zc at hG k2 hmc hP2 ⊢
  generalize w1.alloc (.cells zc 5) = w2 at hG k2 hP2 ⊢
  obtain ⟨g, hg⟩ : ∃ g, g = w1.heap.size := ⟨_, rfl⟩
  rw [← hg] at hG ⊢
  have hgk : Kept w1.heap.size w1.heap.size w1 w2 := k2
  have HP2 := Lib.hid hP2
  have HG := Lib.hid hG
  have HK2 := Lib.hid k2
  have HK1 := Lib.hid k1
  have HWG := Lib.hid hg
  have HMC := Lib.hid hmc
  clear hP2 hG k2 k1 hg hmc hP hgk
  go_upto_region 2 with fail
  refine wp_region_lit ?_
  refine @BigFrame.wpList_want _ _ _ _ _ _ _ ?hwb0 ?_
  case hwb0 => kernel_rfl
  intro K hK
  go_simp
  refine hK _ _ ?_
  clear hK K
  refine wpList_load_row_g ?hwb1 26 _ rfl (wa) rfl 26 kc (0, 0) _ (HP2.out) Try.underlying26 rfl HKI.out ?_
  case hwb1 => kernel_rfl
  simp only [Act.put, List.setIfInBounds_toArray, List.set_cons_zero, List.set_cons_succ]
  refine @BigFrame.wpList_want _ _ _ _ _ _ _ ?hwb2 ?_
  case hwb2 => kernel_rfl
  intro K hK
  go_simp
  go_at_call 38; refine (HDV.out _).mono ?_; rintro e w3 ⟨rfl, k3⟩
  refine hK _ _ ?_
  clear hK K
  refine @BigFrame.wpList_want _ _ _ _ _ _ _ ?hwb3 ?_
  case hwb3 => kernel_rfl
  intro K hK
  go_simp
  refine hK _ _ ?_
  clear hK K
  refine @BigFrame.wpList_want _ _ _ _ _ _ _ ?hwb4 ?_
  case hwb4 => kernel_rfl
  intro K hK
  go_simp
  refine hK _ _ ?_
  clear hK K
  refine @BigFrame.wpList_want _ _ _ _ _ _ _ ?hwb5 ?_
  case hwb5 => kernel_rfl
  intro K hK
  go_simp
  go_at_call 75; refine (HSR.out _).mono ?_; rintro e w4 ⟨rfl, k4⟩
  refine hK _ _ ?_
  clear hK K
  have k24 : Kept w2.heap.size w2.heap.size w2 w4 := k3.trans (k4.mono k3.size (fun i hi _ => by have := k3.size; omega))
  have g4 : w4.heap[g]? = some (.cells zc 5 (0, 0)) := (k24.block _ (lt_of_block HG.out) (Nat.ne_of_lt (lt_of_block HG.out))).trans HG.out
  have hss : (str st).size = sx.size := by rw [str_size, ← HSTL.out, HSL.out]
  have hcp := run_copy_str (P := Try.prog) w4 45 9 3 5 g 0 sx.size sx.size (str st) zc 5 sx.size (by rw [hss]; exact (Nat.min_self _).symm) Try.underlying45 maskInfo g4 (by rw [HMC.out]; omega)
  have hrow4 : (zc.toList.take 0 ++ bcells ((str st).data.toList.take sx.size) ++ zc.toList.drop (0 + sx.size)).toArray = (bcells st).toArray := by
    rw [List.take_zero, List.nil_append, Nat.zero_add, List.drop_of_length_le (by rw [Array.length_toList, HMC.out]; exact Nat.le_refl _), List.append_nil, str_data, List.take_of_length_le (by rw [← HSTL.out, HSL.out]; exact Nat.le_refl _)]
  rw [hrow4] at hcp
  have r5 := setRow_heap w4 g zc (bcells st).toArray _ _ g4
  have k5 : Kept w1.heap.size w1.heap.size w1 (w4.setRow g (bcells st).toArray) := by
    have e := HWG.out
    have k14 := HK2.out.trans (k24.mono HK2.out.size (fun i hi _ => by have := HK2.out.size; omega))
    exact Kept.ofBelow (below_setRow (k14.below (Nat.le_refl _) (Nat.le_refl _)) (by omega) _) (Nat.le_refl _)
  generalize w4.setRow g (bcells st).toArray = w5 at hcp r5 k5
  have Hcp := Lib.hid hcp
  have HR5 := Lib.hid r5
  have HK5 := Lib.hid k5
  generalize str st = sst at Hcp ⊢
  clear hcp r5 k5 hrow4 g4 k24 k3 k4 hss
  go_wp2_with fail
  rw [Hcp.out]
  go_wp2_with fail
  go_loopw [19] (fun i w9 => ∃ j : Nat, j ≤ sx.size ∧ i = .int .i64 (j : Int) ∧ Hid (w9.heap[g]? = some (.cells (bcells (mixed s st j)).toArray 5 (0, 0))) ∧ Hid (Kept w1.heap.size w1.heap.size w1 w9)) (fun i _ => sx.size - (RowKit.intOf i).toNat)
  case atStart => exact ⟨0, by omega, rfl, Lib.hid (by rw [mixed_zero]; exact HR5.out), HK5⟩
  case round =>
    obtain ⟨j, hj, rfl, hR, hK⟩ := hrel
    by_cases hlt : j < sx.size
    · have hjs : j < s.length := by rw [HSL.out]; exact hlt
      have hln : (j : Int) < (sx.size : Int) := by omega
      have hj0 : ¬ (j : Int) < 0 := by omega
      have hat := mixed_at s st HSTL.out j hjs
      have hmo := mixed_more s st HSTL.out j hjs
      have hml := mixed_length s st HSTL.out j (by omega)
      have hsy := HSJ.out j hlt hjs
      generalize st[j]'(by have := HSTL.out; omega) = X at hat hmo
      generalize s[j] = Y at hmo hsy
      have hx : bits .xor .u8 (X.toNat : Int) ((sx[j]'hlt).toNat : Int) = ((X ^^^ Y).toNat : Int) := by rw [hsy]; exact xor8 X Y
      have c0 := bcell_at hR.out hat
      have hset := bcell_set hR.out j (X ^^^ Y)
      rw [← hmo] at hset
      have f0 : wr.frozen? ⟨g, j, none⟩ = false := by simp [World.frozen?, hR.out]
      have hk6 : Kept w1.heap.size w1.heap.size w1 (wr.drew.setCell ⟨g, j, none⟩ (.int .u8 ((X ^^^ Y).toNat : Int))) := hK.out.drew.setCell (.inr (by show w1.heap.size ≤ g; rw [HWG.out]; exact Nat.le_refl _)) _
      generalize (X ^^^ Y) = Z at hx hset hk6
      have HX := Lib.hid hx
      have HSET := Lib.hid hset
      have HK6 := Lib.hid hk6
      clear hat hmo hml hsy hset hk6 hx
      go_upto_region 6 with fail
      refine wp_region_still_tail 7 (by kernel_rfl) (by kernel_rfl) ?_
      simp only [List.take_succ_cons, List.take_zero, List.drop_succ_cons, List.drop_zero]
      generalize hw9 : ({ heap := wr.heap, tape := wr.tape, drawn := wr.drawn + 1, os := wr.os, output := wr.output } : World) = wd
      have c0d : wd.cell? ⟨g, j, none⟩ = some (.int .u8 (X.toNat : Int)) := by rw [← hw9]; exact c0
      have f0d : wd.frozen? ⟨g, j, none⟩ = false := by rw [← hw9]; exact f0
      have HSETd : Hid ((wd.setCell ⟨g, j, none⟩ (.int .u8 (Z.toNat : Int))).heap[g]? = some (.cells (bcells (mixed s st (j + 1))).toArray 5 (0, 0))) := Lib.hid (by rw [← hw9]; exact HSET.out)
      have HKd : Hid (Kept w1.heap.size w1.heap.size w1 (wd.setCell ⟨g, j, none⟩ (.int .u8 (Z.toNat : Int)))) := Lib.hid (by rw [← hw9]; exact HK6.out)
      clear hw9 c0 f0 hR HSET HK6
      iterate 7 still_step
      refine wpStill_nil ?_
      go_wp2_with fail
      rw [HX.out]
      exact ⟨⟨j + 1, by omega, by rw [Int.natCast_add]; rfl, HSETd, HKd⟩, by simp only [RowKit.intOf]; omega⟩
    · obtain rfl : j = sx.size := by omega
      have hd3 : decide ((sx.size : Int) < (sx.size : Int)) = false := decide_eq_false (by omega)
      have hRR := hR.out
      rw [show mixed s st sx.size = Pm.both s st by rw [← HSL.out]; exact mixed_all s st HSTL.out] at hRR
      have HRR := Lib.hid hRR
      clear hRR
      go_wp2
      go_ret
      exact ⟨g, rfl, by rw [HWG.out]; exact HK1.out.size, HRR.out, HK1.out.trans (hK.out.mono HK1.out.size (fun i hi _ => by have := HK1.out.size; omega))⟩

end Go.Proofs.Ytohichignjjleaa

namespace Go.Proofs.Ytohichignjjleaa
open Go.RowKit Go.Lib

/-- What stands in a block of bytes, as a text. -/
theorem conv_block {w : World} {g : Nat} {l : List UInt8} {t : TypeId} (h : w.heap[g]? = some (.cells (bcells l).toArray t (0, 0))) (m : List UInt8) (n : Nat) (hm : m = l.take n) (hn : m.length = n) (c : Nat) : (convert 45 9 (.slice (some ⟨g, 0, none⟩) n c)).run Try.prog w = .ok (.string (str m)) w := by
  have := conv_row w g l t (0, 0) h 0 c m (by rw [List.drop_zero, hn]; exact hm)
  rwa [hn] at this

theorem made_bytes (n : Nat) : madeCells #[Value.int .u8 0] n = (bcells (List.replicate n 0)).toArray := by
  apply Array.ext
  · simp [madeCells, bcells]
  · intro i h1 h2
    simp [madeCells, bcells, Nat.mod_one]

set_option maxRecDepth 100000 in
set_option maxHeartbeats 3200000 in
theorem seal_nil (k : List UInt8) (hk : Hid (k.length = 32)) (about : ByteArray) (h1 : Hid (about.size < 268435456)) (s : List UInt8) (hs : Hid (s.length ≤ 65536)) (w : World) : Calls Try.prog 13 #[.pointer none, .agg (bcells k).toArray, .string about, .string (str s), .slice none 0 0] w fun e w' => e = .returned (.string (str (Pm.sealed k about.data.toList s))) ∧ Kept w.heap.size w.heap.size w w' := by
  have hku := keyInfo hk.out
  generalize hkc : (bcells k).toArray = kc at hku
  have Hkc := Lib.hid hkc
  have HKI := Lib.hid hku
  have hd : decide ((65536 : Int) < ((str s).size : Int)) = false := decide_eq_false (by rw [str_size]; have := hs.out; omega)
  have hn64 : (str s).size ≤ 65536 := by rw [str_size]; exact hs.out
  have hmk : ∀ w', Calls Try.prog 45 #[.agg kc, .string (str s)] w' fun e w2 => ∃ g, e = .returned (.slice (some ⟨g, 0, none⟩) (str s).size (str s).size) ∧ w'.heap.size ≤ g ∧ w2.heap[g]? = some (.cells (bcells (Pm.cross k s)).toArray 5 (0, 0)) ∧ Kept w'.heap.size w'.heap.size w' w2 := fun w' => by
    rw [← Hkc.out]
    have := masked_calls k hk s hs w'
    rw [← str_size s] at this
    exact this
  have hcl : (Pm.cross k s).length = (str s).size := by rw [Pm.cross_length, str_size]
  have htg : ∀ w', Calls Try.prog 46 #[.agg kc, .string about, .string (str (Pm.cross k s))] w' fun e w'' => e = .returned (.agg (bcells (Pm.tag k about.data.toList (Pm.cross k s))).toArray) ∧ Kept w'.heap.size w'.heap.size w' w'' := fun w' => by
    rw [← Hkc.out]
    exact tagof_calls k hk about (str (Pm.cross k s)) h1 (Lib.hid (by rw [str_size, hcl]; omega)) w'
  have htl : (Pm.tag k about.data.toList (Pm.cross k s)).length = 16 := Pm.tag_length _ _ _
  have hsd : Pm.sealed k about.data.toList s = Pm.cross k s ++ Pm.tag k about.data.toList (Pm.cross k s) := rfl
  rw [hsd]
  generalize Pm.tag k about.data.toList (Pm.cross k s) = tg at htg htl ⊢
  generalize Pm.cross k s = cr at hmk hcl htg ⊢
  generalize str s = sx at hd hn64 hmk hcl ⊢
  obtain ⟨res, hres⟩ : ∃ res, res = str (cr ++ tg) := ⟨_, rfl⟩
  rw [← hres]
  obtain ⟨sc, hsc⟩ : ∃ sc, sc = str cr := ⟨_, rfl⟩
  rw [← hsc] at htg
  have hti : (Try.prog.info? 93).map (·.size) = some (bcells tg).toArray.size := by rw [tagInfo, List.size_toArray, bcells_length, htl]
  have htz : zeros16.size = (bcells tg).toArray.size := by rw [zeros16_size, List.size_toArray, bcells_length, htl]
  have hta := bcells_all tg
  generalize hct : (bcells tg).toArray = ct at htg hti htz hta
  obtain ⟨i8, hi8, hz8, hs8, hb8⟩ := sha_u8
  have HI8 := Lib.hid hi8
  have HZ8 := Lib.hid hz8
  have HS8 := Lib.hid hs8
  have HB8 := Lib.hid hb8
  have HMK := Lib.hid hmk
  have HCL := Lib.hid hcl
  have HTG := Lib.hid htg
  have HTL := Lib.hid htl
  have HTI := Lib.hid hti
  have HTZ := Lib.hid htz
  have HTA := Lib.hid hta
  have HRES := Lib.hid hres
  have HSC := Lib.hid hsc
  have HCT := Lib.hid hct
  clear hkc hku hmk hcl htg htl hti htz hta hct hi8 hz8 hs8 hb8 hsd hres hsc
  go_enter Try.func13, Try.ntmps13
  go_upto_region 5 with fail
  have hP : (w.alloc (.cells kc 26)).heap[w.heap.size]? = some (.cells kc 26 (0, 0)) := heap_new _ _
  have k1 : Kept w.heap.size w.heap.size w (w.alloc (.cells kc 26)) := (Kept.refl _ _ _).alloc (Nat.le_refl _) _
  generalize w.alloc (.cells kc 26) = w1 at hP k1 ⊢
  obtain ⟨wa, hwa⟩ : ∃ wa, wa = w.heap.size := ⟨_, rfl⟩
  rw [← hwa] at hP ⊢
  have HWA := Lib.hid hwa
  clear hwa
  refine wp_region_lit ?_
  refine @BigFrame.wpList_want _ _ _ _ _ _ _ ?hwa0 ?_
  case hwa0 => kernel_rfl
  intro K hK
  go_simp
  refine hK _ _ ?_
  clear hK K
  refine @BigFrame.wpList_want _ _ _ _ _ _ _ ?hwa1 ?_
  case hwa1 => kernel_rfl
  intro K hK
  go_simp
  refine hK _ _ ?_
  clear hK K
  refine @BigFrame.wpList_want _ _ _ _ _ _ _ ?hwa2 ?_
  case hwa2 => kernel_rfl
  intro K hK
  go_simp
  try go_bits
  refine hK _ _ ?_
  clear hK K
  refine wpList_make_row w1 rfl _ _ 45 rfl 5 i8 (.int .u8 0) Try.underlying45 HI8.out HZ8.out HS8.out rfl .i64 .i64 (sx.size + 16) (by rw [Int.natCast_add]; rfl) (by rw [Int.natCast_add]; rfl) (by rw [HB8.out]; omega) (by omega) ?_
  simp only [Act.put, List.setIfInBounds_toArray, List.set_cons_zero, List.set_cons_succ]
  refine @BigFrame.wpList_want _ _ _ _ _ _ _ ?hwa4 ?_
  case hwa4 => kernel_rfl
  intro K hK
  go_simp
  refine hK _ _ ?_
  clear hK K
  have hG : (w1.alloc (.cells (madeCells #[.int .u8 0] (sx.size + 16)) 5)).heap[w1.heap.size]? = some (.cells (madeCells #[.int .u8 0] (sx.size + 16)) 5 (0, 0)) := heap_new _ _
  have k2 : Kept w1.heap.size w1.heap.size w1 (w1.alloc (.cells (madeCells #[.int .u8 0] (sx.size + 16)) 5)) := (Kept.refl _ _ _).alloc (Nat.le_refl _) _
  have hmc : (madeCells #[Value.int .u8 0] (sx.size + 16)).size = sx.size + 16 := size_madeCells _ _
  have hP2 := (k2.block _ (lt_of_block hP) (Nat.ne_of_lt (lt_of_block hP))).trans hP
  generalize hzc : madeCells #[Value.int .u8 0] (sx.size + 16) = zc at hG k2 hmc hP2 ⊢
  rw [made_bytes] at hzc
  have HZC := Lib.hid hzc
  clear hzc
  generalize w1.alloc (.cells zc 5) = w2 at hG k2 hP2 ⊢
  obtain ⟨g, hg⟩ : ∃ g, g = w1.heap.size := ⟨_, rfl⟩
  rw [← hg] at hG ⊢
  have HP2 := Lib.hid hP2
  have HG := Lib.hid hG
  have HK2 := Lib.hid k2
  have HK1 := Lib.hid k1
  have HWG := Lib.hid hg
  have HMC := Lib.hid hmc
  clear hP2 hG k2 k1 hg hmc hP
  go_upto_region 6 with fail
  refine wp_region_lit ?_
  refine @BigFrame.wpList_want _ _ _ _ _ _ _ ?hwb0 ?_
  case hwb0 => kernel_rfl
  intro K hK
  go_simp
  refine hK _ _ ?_
  clear hK K
  refine wpList_load_row_g ?hwb1 26 _ rfl (wa) rfl 26 kc (0, 0) _ (HP2.out) Try.underlying26 rfl HKI.out ?_
  case hwb1 => kernel_rfl
  simp only [Act.put, List.setIfInBounds_toArray, List.set_cons_zero, List.set_cons_succ]
  refine @BigFrame.wpList_want _ _ _ _ _ _ _ ?hwb2 ?_
  case hwb2 => kernel_rfl
  intro K hK
  go_simp
  refine hK _ _ ?_
  clear hK K
  refine @BigFrame.wpList_want _ _ _ _ _ _ _ ?hwb3 ?_
  case hwb3 => kernel_rfl
  intro K hK
  go_simp
  go_at_call 45; refine (HMK.out _).mono ?_; rintro e w4 ⟨gm, rfl, hgm, hrm, k4⟩
  refine hK _ _ ?_
  clear hK K
  have g4 : w4.heap[g]? = some (.cells zc 5 (0, 0)) := (k4.block _ (lt_of_block HG.out) (Nat.ne_of_lt (lt_of_block HG.out))).trans HG.out
  have hcp := run_copy_row (P := Try.prog) w4 45 45 3 5 g 0 (sx.size + 16) (sx.size + 16) ⟨gm, 0, none⟩ sx.size sx.size zc 5 (bcells cr) Try.underlying45 byteInfo1 g4 (by rw [bcells_length, HCL.out]; exact (Nat.min_eq_left (Nat.le_add_right _ _)).symm) (fun j v hj => by rw [Addr.add_lit, Nat.zero_add]; exact cells_get hrm hj) (by rw [bcells_length, HCL.out, HMC.out]; omega) (bcells_one _)
  obtain ⟨zt, hzt⟩ : ∃ zt, zt = zc.toList.drop (0 + (bcells cr).length) := ⟨_, rfl⟩
  have hzb : zt = bcells (List.replicate 16 0) := by rw [hzt, ← HZC.out, List.toList_toArray, bcells_length, HCL.out, bcells, ← List.map_drop, List.drop_replicate, show sx.size + 16 - (0 + sx.size) = 16 by omega]; rfl
  rw [List.take_zero, List.nil_append, ← hzt, hzb, ← bcells_append] at hcp
  obtain ⟨row, hrow⟩ : ∃ row, row = cr ++ List.replicate 16 0 := ⟨_, rfl⟩
  rw [← hrow] at hcp
  have HROW := Lib.hid hrow
  clear hrow
  have r5 := setRow_heap w4 g zc (bcells row).toArray _ _ g4
  have k14 := HK2.out.trans (k4.mono HK2.out.size (fun i hi _ => by have := HK2.out.size; omega))
  have k5 : Kept w1.heap.size w1.heap.size w1 (w4.setRow g (bcells row).toArray) := by
    have e := HWG.out
    exact Kept.ofBelow (below_setRow (k14.below (Nat.le_refl _) (Nat.le_refl _)) (by omega) _) (Nat.le_refl _)
  have p5 : (w4.setRow g (bcells row).toArray).heap[wa]? = some (.cells kc 26 (0, 0)) := by
    have p4 := (k4.block _ (lt_of_block HP2.out) (Nat.ne_of_lt (lt_of_block HP2.out))).trans HP2.out
    have hne : wa ≠ g := fun e => by
      subst e
      rw [g4] at p4
      injection p4 with p4
      injection p4 with _ p5 _
      exact absurd p5 (by decide)
    rw [setRow_other w4 g wa _ hne]
    exact p4
  generalize hw5 : w4.setRow g (bcells row).toArray = w5 at hcp r5 k5 p5
  have Hcp := Lib.hid hcp
  have HR5 := Lib.hid r5
  have HK5 := Lib.hid k5
  have HP5 := Lib.hid p5
  clear hcp r5 k5 p5 hzb g4 k14 k4 hrm hgm hzt hw5
  go_wp2_with fail
  rw [Hcp.out]
  have hld : ∀ w', Kept w5.heap.size w5.heap.size w5 w' → (loadVar 26 ⟨wa, 0, none⟩).run Try.prog w' = .ok (.agg kc) w' ∧ (convert 45 9 (.slice (some ⟨g, 0, none⟩) sx.size (sx.size + 16))).run Try.prog w' = .ok (.string sc) w' := fun w' kk => by
    have hrow := (kk.block _ (lt_of_block HR5.out) (Nat.ne_of_lt (lt_of_block HR5.out))).trans HR5.out
    refine ⟨run_loadVar_row w' wa 26 26 kc (0, 0) _ ((kk.block _ (lt_of_block HP5.out) (Nat.ne_of_lt (lt_of_block HP5.out))).trans HP5.out) Try.underlying26 rfl HKI.out, ?_⟩
    rw [HSC.out]
    exact conv_block hrow cr sx.size (by rw [HROW.out, List.take_append_of_le_length (by rw [HCL.out]; exact Nat.le_refl _), List.take_of_length_le (by rw [HCL.out]; exact Nat.le_refl _)]) HCL.out _
  have HLD := Lib.hid hld
  clear hld
  have hb1 : (sx.size : Int) ≤ (sx.size : Int) + 16 := by omega
  go_upto_region 7 with fail
  refine wp_region_noPanic ?_
  refine wp_region_held_drew (S := fun w' => Kept w5.heap.size w5.heap.size w5 w') (by kernel_rfl) ((Kept.refl _ _ _).drew) (fun hH => ?_)
  refine wpAnyH_take_at (i := 0) 33 (.agg kc) rfl rfl (by kernel_rfl) (by kernel_rfl) (by kernel_rfl) (fun _ _ _ h => h) (yieldsIf_load_known (by rfl) 26 _ rfl (wa) (0) rfl (.agg kc) (fun w' hw' => (HLD.out w' hw').1)) hH ?_
  simp only [List.setIfInBounds_toArray, List.set_cons_zero, List.set_cons_succ]
  refine wpAnyH_take_at (i := 1) 34 (.string about) rfl rfl (by kernel_rfl) (by kernel_rfl) (by kernel_rfl) (fun _ _ _ h => h) (.inl ⟨by rfl, fun w9 _ => by go_simp⟩) hH ?_
  simp only [List.setIfInBounds_toArray, List.set_cons_zero, List.set_cons_succ]
  refine wpAnyH_take_at (i := 2) 35 (.slice (some ⟨g, 0, none⟩) (sx.size + 16) (sx.size + 16)) rfl rfl (by kernel_rfl) (by kernel_rfl) (by kernel_rfl) (fun _ _ _ h => h) (.inl ⟨by rfl, fun w9 _ => by go_simp⟩) hH ?_
  simp only [List.setIfInBounds_toArray, List.set_cons_zero, List.set_cons_succ]
  refine wpAnyH_take_at (i := 3) 36 (.string sx) rfl rfl (by kernel_rfl) (by kernel_rfl) (by kernel_rfl) (fun _ _ _ h => h) (.inl ⟨by rfl, fun w9 _ => by go_simp⟩) hH ?_
  simp only [List.setIfInBounds_toArray, List.set_cons_zero, List.set_cons_succ]
  refine wpAnyH_take_at (i := 4) 37 (.int .i64 (sx.size : Int)) rfl rfl (by kernel_rfl) (by kernel_rfl) (by kernel_rfl) (fun _ _ _ h => h) (.inl ⟨by rfl, fun w9 _ => by go_simp⟩) hH ?_
  simp only [List.setIfInBounds_toArray, List.set_cons_zero, List.set_cons_succ]
  refine wpAnyH_take_at (i := 5) 38 (.slice (some ⟨g, 0, none⟩) sx.size (sx.size + 16)) rfl rfl (by kernel_rfl) (by kernel_rfl) (by kernel_rfl) (fun _ _ _ h => h) (.inl ⟨by rfl, fun w9 _ => by go_simp⟩) hH ?_
  simp only [List.setIfInBounds_toArray, List.set_cons_zero, List.set_cons_succ]
  refine wpAnyH_take_at (i := 6) 39 (.string sc) rfl rfl (by kernel_rfl) (by kernel_rfl) (by kernel_rfl) (fun _ _ _ h => h) (.inl ⟨by rfl, fun w9 h9 => by have h8 := (HLD.out w9 h9).2; go_simp⟩) hH ?_
  simp only [List.setIfInBounds_toArray, List.set_cons_zero, List.set_cons_succ]
  refine wpAnyH_ready (rs := [7, 8]) (by kernel_rfl) (by simp) ?_
  refine AllReadyH.cons rfl (fun K hK => ?_) ?_
  · rw [if_pos (by rfl)]
    go_simp
    go_wp2_with (go_at_call 46; refine (HTG.out _).mono ?_; rintro e w6 ⟨rfl, k6⟩)
    have KA : Kept w5.heap.size w5.heap.size w5 w6 := (Kept.refl _ _ _).drew.trans k6
    refine hK.out _ _ (KA) (fun hH => ?_)
    clear hK K
    refine wpAnyH_ready (rs := [8]) (by kernel_rfl) (by simp) ?_
    refine AllReadyH.cons rfl (fun K hK => ?_) AllReadyH.nil
    rw [if_pos (by rfl)]
    go_simp
    rw [zeros16_eq]
    have KB : Kept w5.heap.size w5.heap.size w5 (w6.alloc (.cells zeros16 93)) := KA.alloc KA.size _
    have HWT : Hid (w5.heap.size ≤ w6.heap.size) := Lib.hid KA.size
    refine hK.out _ _ (KB) (fun hH => ?_)
    clear hK K
    refine wpAnyH_ready (rs := [9]) (by kernel_rfl) (by simp) ?_
    refine AllReadyH.cons rfl (fun K hK => ?_) AllReadyH.nil
    rw [if_pos (by rfl)]
    refine wp_store_row 93 _ _ rfl (w6.heap.size) ct rfl rfl 93 zeros16 (heap_new _ _) HTI.out HTZ.out HTA.out ?_
    have KS : Kept w5.heap.size w5.heap.size w5 ((w6.alloc (.cells zeros16 93)).setRow (w6.heap.size) ct) := Kept.ofBelow (below_setRow (KB.below (Nat.le_refl _) (Nat.le_refl _)) HWT.out ct) (Nat.le_refl _)
    have tS := setRow_heap (w6.alloc (.cells zeros16 93)) (w6.heap.size) zeros16 ct _ _ (heap_new _ _)
    refine hK.out _ _ (KS) (fun hH => ?_)
    clear hK K
    refine wpAnyH_done (by kernel_rfl) ?_ _
    refine NoPanic.normal ?_
    generalize (w6.alloc (.cells zeros16 93)).setRow (w6.heap.size) ct = w8 at KS tS ⊢
    have r8 := (KS.block _ (lt_of_block HR5.out) (Nat.ne_of_lt (lt_of_block HR5.out))).trans HR5.out
    have hWT := HWT.out
    generalize (w6.heap.size) = wt at tS hWT ⊢
    have HKS := Lib.hid KS
    have HTS := Lib.hid tS
    have HR8 := Lib.hid r8
    clear KS tS r8 hWT
    go_upto_region 8 with fail
    refine wp_region_still_tail 5 (by kernel_rfl) (by kernel_rfl) ?_
    simp only [List.take_succ_cons, List.take_zero, List.drop_succ_cons, List.drop_zero]
    generalize hw9 : ({ heap := w8.heap, tape := w8.tape, drawn := w8.drawn + 1, os := w8.os, output := w8.output } : World) = wd
    have rd : wd.heap[g]? = some (.cells (bcells row).toArray 5 (0, 0)) := by rw [← hw9]; exact HR8.out
    have td : wd.heap[wt]? = some (.cells ct 93 (0, 0)) := by rw [← hw9]; exact HTS.out
    have kd : Kept w5.heap.size w5.heap.size w5 wd := by rw [← hw9]; exact HKS.out.drew
    have hrl : row.length = sx.size + 16 := by rw [HROW.out, List.length_append, HCL.out, List.length_replicate]
    have hcp := run_copy_row (P := Try.prog) wd 45 45 3 5 g sx.size 16 16 ⟨wt, 0, none⟩ 16 16 (bcells row).toArray 5 (bcells tg) Try.underlying45 byteInfo1 rd (by rw [bcells_length, HTL.out]; rfl) (fun j v hj => by
      rw [Addr.add_lit, Nat.zero_add]
      have tdb := td
      rw [← HCT.out] at tdb
      exact cells_get tdb hj) (by rw [bcells_length, HTL.out, List.size_toArray, bcells_length, hrl]; exact Nat.le_refl _) (bcells_one _)
    have hfin : ((bcells row).toArray.toList.take sx.size ++ bcells tg ++ (bcells row).toArray.toList.drop (sx.size + (bcells tg).length)).toArray = (bcells (cr ++ tg)).toArray := by
      rw [List.toList_toArray, bcells_length, HTL.out, List.drop_of_length_le (by rw [bcells_length, hrl]; exact Nat.le_refl _), List.append_nil, HROW.out, bcells_append, List.take_append_of_le_length (by rw [bcells_length, HCL.out]; exact Nat.le_refl _), List.take_of_length_le (by rw [bcells_length, HCL.out]; exact Nat.le_refl _), bcells_append]
    rw [hfin] at hcp
    have rf := setRow_heap wd g _ (bcells (cr ++ tg)).toArray _ _ rd
    have k15 : Kept w1.heap.size w1.heap.size w1 wd := HK5.out.trans (kd.mono HK5.out.size (fun i hi _ => by have := HK5.out.size; omega))
    have kf : Kept w1.heap.size w1.heap.size w1 (wd.setRow g (bcells (cr ++ tg)).toArray) := by
      have e := HWG.out
      exact Kept.ofBelow (below_setRow (k15.below (Nat.le_refl _) (Nat.le_refl _)) (by omega) _) (Nat.le_refl _)
    generalize wd.setRow g (bcells (cr ++ tg)).toArray = wf at hcp rf kf
    have cv : (convert 45 9 (.slice (some ⟨g, 0, none⟩) (sx.size + 16) (sx.size + 16))).run Try.prog wf = .ok (.string res) wf := by
      rw [HRES.out]
      exact conv_block rf (cr ++ tg) (sx.size + 16) (by rw [List.take_of_length_le (by rw [List.length_append, HCL.out, HTL.out]; exact Nat.le_refl _)]) (by rw [List.length_append, HCL.out, HTL.out]) _
    have Hcp2 := Lib.hid hcp
    have HKF := Lib.hid kf
    clear hw9 rd td kd hrl hcp hfin rf k15 kf
    iterate 5 still_step
    refine wpStill_nil ?_
    go_wp2_with fail
    rw [Hcp2.out]
    go_wp2
    go_ret
    exact ⟨rfl, HK1.out.trans (HKF.out.mono HK1.out.size (fun i hi _ => by have := HK1.out.size; omega))⟩
  · refine AllReadyH.cons rfl (fun K hK => ?_) AllReadyH.nil
    rw [if_pos (by rfl)]
    go_simp
    rw [zeros16_eq]
    have KA : Kept w5.heap.size w5.heap.size w5 (w5.drew.alloc (.cells zeros16 93)) := (Kept.refl _ _ _).drew.alloc (Nat.le_refl _) _
    have tA : (w5.drew.alloc (.cells zeros16 93)).heap[w5.heap.size]? = some (.cells zeros16 93 (0, 0)) := heap_new _ _
    refine hK.out _ _ (KA) (fun hH => ?_)
    clear hK K
    refine wpAnyH_ready (rs := [7]) (by kernel_rfl) (by simp) ?_
    refine AllReadyH.cons rfl (fun K hK => ?_) AllReadyH.nil
    rw [if_pos (by rfl)]
    go_simp
    go_wp2_with (go_at_call 46; refine (HTG.out _).mono ?_; rintro e w6 ⟨rfl, k6⟩)
    have KB : Kept w5.heap.size w5.heap.size w5 w6 := KA.trans (k6.mono KA.size (fun i hi _ => Nat.ne_of_lt (Nat.lt_of_lt_of_le hi KA.size)))
    have tB := (k6.block _ (lt_of_block tA) (Nat.ne_of_lt (lt_of_block tA))).trans tA
    have HWT : Hid (w5.heap.size ≤ w5.heap.size) := Lib.hid (Nat.le_refl _)
    refine hK.out _ _ (KB) (fun hH => ?_)
    clear hK K
    refine wpAnyH_ready (rs := [9]) (by kernel_rfl) (by simp) ?_
    refine AllReadyH.cons rfl (fun K hK => ?_) AllReadyH.nil
    rw [if_pos (by rfl)]
    refine wp_store_row 93 _ _ rfl (w5.heap.size) ct rfl rfl 93 zeros16 (tB) HTI.out HTZ.out HTA.out ?_
    have KS : Kept w5.heap.size w5.heap.size w5 ((w6).setRow (w5.heap.size) ct) := Kept.ofBelow (below_setRow (KB.below (Nat.le_refl _) (Nat.le_refl _)) HWT.out ct) (Nat.le_refl _)
    have tS := setRow_heap (w6) (w5.heap.size) zeros16 ct _ _ (tB)
    refine hK.out _ _ (KS) (fun hH => ?_)
    clear hK K
    refine wpAnyH_done (by kernel_rfl) ?_ _
    refine NoPanic.normal ?_
    generalize (w6).setRow (w5.heap.size) ct = w8 at KS tS ⊢
    have r8 := (KS.block _ (lt_of_block HR5.out) (Nat.ne_of_lt (lt_of_block HR5.out))).trans HR5.out
    have hWT := HWT.out
    generalize (w5.heap.size) = wt at tS hWT ⊢
    have HKS := Lib.hid KS
    have HTS := Lib.hid tS
    have HR8 := Lib.hid r8
    clear KS tS r8 hWT
    go_upto_region 8 with fail
    refine wp_region_still_tail 5 (by kernel_rfl) (by kernel_rfl) ?_
    simp only [List.take_succ_cons, List.take_zero, List.drop_succ_cons, List.drop_zero]
    generalize hw9 : ({ heap := w8.heap, tape := w8.tape, drawn := w8.drawn + 1, os := w8.os, output := w8.output } : World) = wd
    have rd : wd.heap[g]? = some (.cells (bcells row).toArray 5 (0, 0)) := by rw [← hw9]; exact HR8.out
    have td : wd.heap[wt]? = some (.cells ct 93 (0, 0)) := by rw [← hw9]; exact HTS.out
    have kd : Kept w5.heap.size w5.heap.size w5 wd := by rw [← hw9]; exact HKS.out.drew
    have hrl : row.length = sx.size + 16 := by rw [HROW.out, List.length_append, HCL.out, List.length_replicate]
    have hcp := run_copy_row (P := Try.prog) wd 45 45 3 5 g sx.size 16 16 ⟨wt, 0, none⟩ 16 16 (bcells row).toArray 5 (bcells tg) Try.underlying45 byteInfo1 rd (by rw [bcells_length, HTL.out]; rfl) (fun j v hj => by
      rw [Addr.add_lit, Nat.zero_add]
      have tdb := td
      rw [← HCT.out] at tdb
      exact cells_get tdb hj) (by rw [bcells_length, HTL.out, List.size_toArray, bcells_length, hrl]; exact Nat.le_refl _) (bcells_one _)
    have hfin : ((bcells row).toArray.toList.take sx.size ++ bcells tg ++ (bcells row).toArray.toList.drop (sx.size + (bcells tg).length)).toArray = (bcells (cr ++ tg)).toArray := by
      rw [List.toList_toArray, bcells_length, HTL.out, List.drop_of_length_le (by rw [bcells_length, hrl]; exact Nat.le_refl _), List.append_nil, HROW.out, bcells_append, List.take_append_of_le_length (by rw [bcells_length, HCL.out]; exact Nat.le_refl _), List.take_of_length_le (by rw [bcells_length, HCL.out]; exact Nat.le_refl _), bcells_append]
    rw [hfin] at hcp
    have rf := setRow_heap wd g _ (bcells (cr ++ tg)).toArray _ _ rd
    have k15 : Kept w1.heap.size w1.heap.size w1 wd := HK5.out.trans (kd.mono HK5.out.size (fun i hi _ => by have := HK5.out.size; omega))
    have kf : Kept w1.heap.size w1.heap.size w1 (wd.setRow g (bcells (cr ++ tg)).toArray) := by
      have e := HWG.out
      exact Kept.ofBelow (below_setRow (k15.below (Nat.le_refl _) (Nat.le_refl _)) (by omega) _) (Nat.le_refl _)
    generalize wd.setRow g (bcells (cr ++ tg)).toArray = wf at hcp rf kf
    have cv : (convert 45 9 (.slice (some ⟨g, 0, none⟩) (sx.size + 16) (sx.size + 16))).run Try.prog wf = .ok (.string res) wf := by
      rw [HRES.out]
      exact conv_block rf (cr ++ tg) (sx.size + 16) (by rw [List.take_of_length_le (by rw [List.length_append, HCL.out, HTL.out]; exact Nat.le_refl _)]) (by rw [List.length_append, HCL.out, HTL.out]) _
    have Hcp2 := Lib.hid hcp
    have HKF := Lib.hid kf
    clear hw9 rd td kd hrl hcp hfin rf k15 kf
    iterate 5 still_step
    refine wpStill_nil ?_
    go_wp2_with fail
    rw [Hcp2.out]
    go_wp2
    go_ret
    exact ⟨rfl, HK1.out.trans (HKF.out.mono HK1.out.size (fun i hi _ => by have := HK1.out.size; omega))⟩

end Go.Proofs.Ytohichignjjleaa

namespace Go.Proofs.Ytohichignjjleaa
open Go.RowKit Go.Lib

set_option maxRecDepth 100000 in
set_option maxHeartbeats 3200000 in
theorem open_short (k : List UInt8) (about : ByteArray) (s : List UInt8) (hs : s.length < 16) (w : World) : Calls Try.prog 63 #[.agg (bcells k).toArray, .string about, .string (str s)] w fun e w' => e = .returned (.tuple #[.string ⟨#[]⟩, .int .i64 2]) ∧ Kept w.heap.size w.heap.size w w' := by
  generalize (bcells k).toArray = kc
  have hz : ((str s).size : Int) < 16 := by rw [str_size]; omega
  generalize str s = sx at hz ⊢
  have hd : (sx.size : Int) - 16 < 0 := by omega
  go_enter Try.func63, Try.ntmps63
  go_wp2
  refine bodyPost_ret (results_tmp2 rfl _ _ _) rfl ?_
  exact ⟨rfl, (Kept.refl _ _ _).alloc (Nat.le_refl _) _⟩

set_option maxRecDepth 100000 in
set_option maxHeartbeats 3200000 in
theorem open_long (k : List UInt8) (about : ByteArray) (s : List UInt8) (hs : 65552 < s.length) (hm : (s.length : Int) ≤ 9223372036854775807) (w : World) : Calls Try.prog 63 #[.agg (bcells k).toArray, .string about, .string (str s)] w fun e w' => e = .returned (.tuple #[.string ⟨#[]⟩, .int .i64 5]) ∧ Kept w.heap.size w.heap.size w w' := by
  generalize (bcells k).toArray = kc
  have hz : (65552 : Int) < ((str s).size : Int) := by rw [str_size]; omega
  have hm2 : ((str s).size : Int) ≤ 9223372036854775807 := by rw [str_size]; exact hm
  generalize str s = sx at hz hm2 ⊢
  have hd : decide ((sx.size : Int) - 16 < 0) = false := decide_eq_false (by omega)
  have hd1 : ¬ ((sx.size : Int) - 16 < 0) := by omega
  have hd2 : decide ((65536 : Int) < (sx.size : Int) - 16) = true := decide_eq_true (by omega)
  go_enter Try.func63, Try.ntmps63
  go_wp2
  refine bodyPost_ret (results_tmp2 rfl _ _ _) rfl ?_
  exact ⟨rfl, (Kept.refl _ _ _).alloc (Nat.le_refl _) _⟩

set_option maxRecDepth 100000 in
set_option maxHeartbeats 3200000 in
theorem open_right (k : List UInt8) (hk : Hid (k.length = 32)) (about : ByteArray) (h1 : Hid (about.size < 268435456)) (s : List UInt8) (n : Nat) (hn : s.length = n + 16) (hn2 : n ≤ 65536) (w : World) : Calls Try.prog 63 #[.agg (bcells k).toArray, .string about, .string (str s)] w fun e w' => e = .returned (.tuple #[.string (str (Pm.opened k about.data.toList s).1), .int .i64 (((Pm.opened k about.data.toList s).2 : Nat) : Int)]) ∧ Kept w.heap.size w.heap.size w w' := by
  have hop : Pm.opened k about.data.toList s = if (Pm.tag k about.data.toList (Pm.body s) == Pm.rest s) = true then (Pm.cross k (Pm.body s), 0) else ([], 6) := by
    rw [Pm.opened, if_neg (by omega), if_neg (by omega)]
    by_cases h : Pm.tag k about.data.toList (Pm.body s) = Pm.rest s
    · rw [if_pos h, if_pos (by rw [h]; exact beq_self_eq_true _)]
    · rw [if_neg h, if_neg (fun e => h (eq_of_beq e))]
  rw [hop]
  have hbl : (Pm.body s).length = n := by rw [Pm.body, List.length_take]; omega
  have hx1 : (str s).extract 0 n = str (Pm.body s) := by rw [str_take, Pm.body, hn, Nat.add_sub_cancel]
  have hx2 : (str s).extract n (str s).size = str (Pm.rest s) := by rw [str_drop, Pm.rest, hn, Nat.add_sub_cancel]
  have hsz : (str s).size = n + 16 := by rw [str_size, hn]
  have hku := keyInfo hk.out
  generalize hkc : (bcells k).toArray = kc at hku
  have htg : ∀ w', Calls Try.prog 46 #[.agg kc, .string about, .string (str (Pm.body s))] w' fun e w'' => e = .returned (.agg (bcells (Pm.tag k about.data.toList (Pm.body s))).toArray) ∧ Kept w'.heap.size w'.heap.size w' w'' := fun w' => by
    rw [← hkc]
    exact tagof_calls k hk about (str (Pm.body s)) h1 (Lib.hid (by rw [str_size, hbl]; omega)) w'
  have hmk : ∀ w', Calls Try.prog 45 #[.agg kc, .string (str (Pm.body s))] w' fun e w2 => ∃ g, e = .returned (.slice (some ⟨g, 0, none⟩) n n) ∧ w'.heap.size ≤ g ∧ w2.heap[g]? = some (.cells (bcells (Pm.cross k (Pm.body s))).toArray 5 (0, 0)) ∧ Kept w'.heap.size w'.heap.size w' w2 := fun w' => by
    rw [← hkc]
    have := masked_calls k hk (Pm.body s) (Lib.hid (by rw [hbl]; exact hn2)) w'
    rw [hbl] at this
    exact this
  have hcl : (Pm.cross k (Pm.body s)).length = n := by rw [Pm.cross_length, hbl]
  have htl : (Pm.tag k about.data.toList (Pm.body s)).length = 16 := Pm.tag_length _ _ _
  generalize Pm.cross k (Pm.body s) = cr at hmk hcl ⊢
  generalize Pm.tag k about.data.toList (Pm.body s) = tg at htg htl ⊢
  generalize Pm.rest s = rs at hx2 ⊢
  generalize str (Pm.body s) = sb at hx1 htg hmk
  generalize str s = sx at hx1 hx2 hsz ⊢
  have hti : (Try.prog.info? 93).map (·.size) = some (bcells tg).toArray.size := by rw [tagInfo, List.size_toArray, bcells_length, htl]
  have htz : zeros16.size = (bcells tg).toArray.size := by rw [zeros16_size, List.size_toArray, bcells_length, htl]
  have hta := bcells_all tg
  generalize hct : (bcells tg).toArray = ct at htg hti htz hta
  have HKI := Lib.hid hku
  have HMK := Lib.hid hmk
  have HCL := Lib.hid hcl
  have HTG := Lib.hid htg
  have HTL := Lib.hid htl
  have HTI := Lib.hid hti
  have HTZ := Lib.hid htz
  have HTA := Lib.hid hta
  have HCT := Lib.hid hct
  have hsub : (sx.size : Int) - 16 = (n : Int) := by rw [hsz, Int.natCast_add]; omega
  have hb1 : ¬ ((n : Int) < 0) := by omega
  have hb2 : (n : Int) ≤ (sx.size : Int) := by rw [hsz, Int.natCast_add]; omega
  have hb3 : decide ((65536 : Int) < (n : Int)) = false := decide_eq_false (by omega)
  have hb4 : (sx.size : Int) ≤ 100000 := by rw [hsz, Int.natCast_add]; omega
  clear hkc hku hmk hcl htg htl hti htz hta hct hop hbl hn hsz
  go_enter Try.func63, Try.ntmps63
  go_upto_region 6 with fail
  have hP : (w.alloc (.cells kc 26)).heap[w.heap.size]? = some (.cells kc 26 (0, 0)) := heap_new _ _
  have k1 : Kept w.heap.size w.heap.size w (w.alloc (.cells kc 26)) := (Kept.refl _ _ _).alloc (Nat.le_refl _) _
  generalize w.alloc (.cells kc 26) = w5 at hP k1 ⊢
  obtain ⟨wa, hwa⟩ : ∃ wa, wa = w.heap.size := ⟨_, rfl⟩
  rw [← hwa] at hP ⊢
  have hld : ∀ w', Kept w5.heap.size w5.heap.size w5 w' → (loadVar 26 ⟨wa, 0, none⟩).run Try.prog w' = .ok (.agg kc) w' := fun w' kk => run_loadVar_row w' wa 26 26 kc (0, 0) _ ((kk.block _ (lt_of_block hP) (Nat.ne_of_lt (lt_of_block hP))).trans hP) Try.underlying26 rfl HKI.out
  have HLD := Lib.hid hld
  have HK1 := Lib.hid k1
  have HWA := Lib.hid hwa
  clear hwa hld k1 hP
  refine wp_region_noPanic ?_
  refine wp_region_held_drew (S := fun w' => Kept w5.heap.size w5.heap.size w5 w') (by kernel_rfl) ((Kept.refl _ _ _).drew) (fun hH => ?_)
  refine wpAnyH_take_at (i := 0) 17 (.agg kc) rfl rfl (by kernel_rfl) (by kernel_rfl) (by kernel_rfl) (fun _ _ _ h => h) (yieldsIf_load_known (by rfl) 26 _ rfl (wa) (0) rfl (.agg kc) (fun w' hw' => HLD.out w' hw')) hH ?_
  simp only [List.setIfInBounds_toArray, List.set_cons_zero, List.set_cons_succ]
  refine wpAnyH_take_at (i := 1) 18 (.string about) rfl rfl (by kernel_rfl) (by kernel_rfl) (by kernel_rfl) (fun _ _ _ h => h) (.inl ⟨by rfl, fun w9 _ => by go_simp⟩) hH ?_
  simp only [List.setIfInBounds_toArray, List.set_cons_zero, List.set_cons_succ]
  refine wpAnyH_take_at (i := 2) 19 (.string sx) rfl rfl (by kernel_rfl) (by kernel_rfl) (by kernel_rfl) (fun _ _ _ h => h) (.inl ⟨by rfl, fun w9 _ => by go_simp⟩) hH ?_
  simp only [List.setIfInBounds_toArray, List.set_cons_zero, List.set_cons_succ]
  refine wpAnyH_take_at (i := 3) 20 (.int .i64 (n : Int)) rfl rfl (by kernel_rfl) (by kernel_rfl) (by kernel_rfl) (fun _ _ _ h => h) (.inl ⟨by rfl, fun w9 _ => by go_simp⟩) hH ?_
  simp only [List.setIfInBounds_toArray, List.set_cons_zero, List.set_cons_succ]
  refine wpAnyH_take_at (i := 4) 21 (.string sb) rfl rfl (by kernel_rfl) (by kernel_rfl) (by kernel_rfl) (fun _ _ _ h => h) (.inl ⟨by rfl, fun w9 _ => by go_simp⟩) hH ?_
  simp only [List.setIfInBounds_toArray, List.set_cons_zero, List.set_cons_succ]
  refine wpAnyH_ready (rs := [5, 6]) (by kernel_rfl) (by simp) ?_
  refine AllReadyH.cons rfl (fun K hK => ?_) ?_
  · rw [if_pos (by rfl)]
    go_simp
    go_wp2_with (go_at_call 46; refine (HTG.out _).mono ?_; rintro e w6 ⟨rfl, k6⟩)
    have KA : Kept w5.heap.size w5.heap.size w5 w6 := (Kept.refl _ _ _).drew.trans k6
    refine hK.out _ _ (KA) (fun hH => ?_)
    clear hK K
    refine wpAnyH_ready (rs := [6]) (by kernel_rfl) (by simp) ?_
    refine AllReadyH.cons rfl (fun K hK => ?_) AllReadyH.nil
    rw [if_pos (by rfl)]
    go_simp
    rw [zeros16_eq]
    have KB : Kept w5.heap.size w5.heap.size w5 (w6.alloc (.cells zeros16 93)) := KA.alloc KA.size _
    have HWT : Hid (w5.heap.size ≤ w6.heap.size) := Lib.hid KA.size
    refine hK.out _ _ (KB) (fun hH => ?_)
    clear hK K
    refine wpAnyH_ready (rs := [7]) (by kernel_rfl) (by simp) ?_
    refine AllReadyH.cons rfl (fun K hK => ?_) AllReadyH.nil
    rw [if_pos (by rfl)]
    refine wp_store_row 93 _ _ rfl (w6.heap.size) ct rfl rfl 93 zeros16 (heap_new _ _) HTI.out HTZ.out HTA.out ?_
    have KS : Kept w5.heap.size w5.heap.size w5 ((w6.alloc (.cells zeros16 93)).setRow (w6.heap.size) ct) := Kept.ofBelow (below_setRow (KB.below (Nat.le_refl _) (Nat.le_refl _)) HWT.out ct) (Nat.le_refl _)
    have tS := setRow_heap (w6.alloc (.cells zeros16 93)) (w6.heap.size) zeros16 ct _ _ (heap_new _ _)
    refine hK.out _ _ (KS) (fun hH => ?_)
    clear hK K
    refine wpAnyH_done (by kernel_rfl) ?_ _
    refine NoPanic.normal ?_
    generalize (w6.alloc (.cells zeros16 93)).setRow (w6.heap.size) ct = w8 at KS tS ⊢
    generalize (w6.heap.size) = wt at tS ⊢
    have HKS := Lib.hid KS
    have HTS := Lib.hid tS
    clear KS tS
    go_upto_region 7 with fail
    refine wp_region_still_tail 5 (by kernel_rfl) (by kernel_rfl) ?_
    simp only [List.take_succ_cons, List.take_zero, List.drop_succ_cons, List.drop_zero]
    generalize hw9 : ({ heap := w8.heap, tape := w8.tape, drawn := w8.drawn + 1, os := w8.os, output := w8.output } : World) = wd
    have td : wd.heap[wt]? = some (.cells ct 93 (0, 0)) := by rw [← hw9]; exact HTS.out
    have kd : Kept w5.heap.size w5.heap.size w5 wd := by rw [← hw9]; exact HKS.out.drew
    have cv : (convert 45 9 (.slice (some ⟨wt, 0, none⟩) 16 16)).run Try.prog wd = .ok (.string (str tg)) wd := by
      rw [← HCT.out] at td
      exact conv_block td tg 16 (by rw [List.take_of_length_le (by rw [HTL.out]; exact Nat.le_refl _)]) HTL.out 16
    have HKD := Lib.hid kd
    clear hw9 td kd
    iterate 5 still_step
    refine wpStill_nil ?_
    refine @BigFrame.wpList_want _ _ _ _ _ _ _ ?hwnq1 ?_
    case hwnq1 => kernel_rfl
    intro K hK
    go_simp
    refine hK _ _ ?_
    clear hK K
    generalize hq : (tg == rs) = q
    cases q with
    | false =>
      go_wp2
      all_goals refine bodyPost_ret (results_tmp2 rfl _ _ _) rfl ?_
      all_goals exact ⟨rfl, HK1.out.trans (HKD.out.mono HK1.out.size (fun i hi _ => by have := HK1.out.size; omega))⟩
    | true =>
      go_upto_region 9 with fail
      refine wp_region_noPanic ?_
      refine wp_region_held_drew (S := fun w' => Kept w5.heap.size w5.heap.size w5 w') (by kernel_rfl) (HKD.out.drew) (fun hH => ?_)
      refine wpAnyH_take_at (i := 0) 29 (.agg kc) rfl rfl (by kernel_rfl) (by kernel_rfl) (by kernel_rfl) (fun _ _ _ h => h) (yieldsIf_load_known (by rfl) 26 _ rfl (wa) (0) rfl (.agg kc) (fun w' hw' => HLD.out w' hw')) hH ?_
      simp only [List.setIfInBounds_toArray, List.set_cons_zero, List.set_cons_succ]
      refine wpAnyH_take_at (i := 1) 30 (.string sx) rfl rfl (by kernel_rfl) (by kernel_rfl) (by kernel_rfl) (fun _ _ _ h => h) (.inl ⟨by rfl, fun w9 _ => by go_simp⟩) hH ?_
      simp only [List.setIfInBounds_toArray, List.set_cons_zero, List.set_cons_succ]
      refine wpAnyH_take_at (i := 2) 31 (.int .i64 (n : Int)) rfl rfl (by kernel_rfl) (by kernel_rfl) (by kernel_rfl) (fun _ _ _ h => h) (.inl ⟨by rfl, fun w9 _ => by go_simp⟩) hH ?_
      simp only [List.setIfInBounds_toArray, List.set_cons_zero, List.set_cons_succ]
      refine wpAnyH_take_at (i := 3) 32 (.string sb) rfl rfl (by kernel_rfl) (by kernel_rfl) (by kernel_rfl) (fun _ _ _ h => h) (.inl ⟨by rfl, fun w9 _ => by go_simp⟩) hH ?_
      simp only [List.setIfInBounds_toArray, List.set_cons_zero, List.set_cons_succ]
      refine wpAnyH_ready (rs := [4]) (by kernel_rfl) (by simp) ?_
      refine AllReadyH.cons rfl (fun K hK => ?_) AllReadyH.nil
      rw [if_pos (by rfl)]
      go_simp
      go_wp2_with (go_at_call 45; refine (HMK.out _).mono ?_; rintro e w10 ⟨gm, rfl, hgm, hrm, k10⟩)
      have K10 : Kept w5.heap.size w5.heap.size w5 w10 := HKD.out.drew.trans (k10.mono HKD.out.drew.size (fun i hi _ => Nat.ne_of_lt (Nat.lt_of_lt_of_le hi HKD.out.drew.size)))
      refine hK.out _ _ (K10) (fun hH => ?_)
      clear hK K
      have cv2 := conv_block hrm cr n (by rw [List.take_of_length_le (by rw [HCL.out]; exact Nat.le_refl _)]) HCL.out n
      refine wpAnyH_ready (rs := [5]) (by kernel_rfl) (by simp) ?_
      refine AllReadyH.cons rfl (fun K hK => ?_) AllReadyH.nil
      rw [if_pos (by rfl)]
      go_simp
      refine hK.out _ _ (K10) (fun hH => ?_)
      clear hK K
      refine wpAnyH_take_at (i := 6) 6 (.string (str cr)) rfl rfl (by kernel_rfl) (by kernel_rfl) (by kernel_rfl) (fun _ _ _ h => h) (.inl ⟨by rfl, fun w9 _ => by go_simp⟩) hH ?_
      simp only [List.setIfInBounds_toArray, List.set_cons_zero, List.set_cons_succ]
      refine wpAnyH_take_at (i := 7) 7 (.int .i64 0) rfl rfl (by kernel_rfl) (by kernel_rfl) (by kernel_rfl) (fun _ _ _ h => h) (.inl ⟨by rfl, fun w9 _ => by go_simp⟩) hH ?_
      simp only [List.setIfInBounds_toArray, List.set_cons_zero, List.set_cons_succ]
      refine wpAnyH_done (by kernel_rfl) ?_ _
      refine NoPanic.normal ?_
      clear cv2
      go_wp2
      refine bodyPost_ret (results_tmp2 rfl _ _ _) rfl ?_
      exact ⟨rfl, HK1.out.trans (K10.mono HK1.out.size (fun i hi _ => by have := HK1.out.size; omega))⟩
  · refine AllReadyH.cons rfl (fun K hK => ?_) AllReadyH.nil
    rw [if_pos (by rfl)]
    go_simp
    rw [zeros16_eq]
    have KA : Kept w5.heap.size w5.heap.size w5 (w5.drew.alloc (.cells zeros16 93)) := (Kept.refl _ _ _).drew.alloc (Nat.le_refl _) _
    have tA : (w5.drew.alloc (.cells zeros16 93)).heap[w5.heap.size]? = some (.cells zeros16 93 (0, 0)) := heap_new _ _
    refine hK.out _ _ (KA) (fun hH => ?_)
    clear hK K
    refine wpAnyH_ready (rs := [5]) (by kernel_rfl) (by simp) ?_
    refine AllReadyH.cons rfl (fun K hK => ?_) AllReadyH.nil
    rw [if_pos (by rfl)]
    go_simp
    go_wp2_with (go_at_call 46; refine (HTG.out _).mono ?_; rintro e w6 ⟨rfl, k6⟩)
    have KB : Kept w5.heap.size w5.heap.size w5 w6 := KA.trans (k6.mono KA.size (fun i hi _ => Nat.ne_of_lt (Nat.lt_of_lt_of_le hi KA.size)))
    have tB := (k6.block _ (lt_of_block tA) (Nat.ne_of_lt (lt_of_block tA))).trans tA
    have HWT : Hid (w5.heap.size ≤ w5.heap.size) := Lib.hid (Nat.le_refl _)
    refine hK.out _ _ (KB) (fun hH => ?_)
    clear hK K
    refine wpAnyH_ready (rs := [7]) (by kernel_rfl) (by simp) ?_
    refine AllReadyH.cons rfl (fun K hK => ?_) AllReadyH.nil
    rw [if_pos (by rfl)]
    refine wp_store_row 93 _ _ rfl (w5.heap.size) ct rfl rfl 93 zeros16 (tB) HTI.out HTZ.out HTA.out ?_
    have KS : Kept w5.heap.size w5.heap.size w5 ((w6).setRow (w5.heap.size) ct) := Kept.ofBelow (below_setRow (KB.below (Nat.le_refl _) (Nat.le_refl _)) HWT.out ct) (Nat.le_refl _)
    have tS := setRow_heap (w6) (w5.heap.size) zeros16 ct _ _ (tB)
    refine hK.out _ _ (KS) (fun hH => ?_)
    clear hK K
    refine wpAnyH_done (by kernel_rfl) ?_ _
    refine NoPanic.normal ?_
    generalize (w6).setRow (w5.heap.size) ct = w8 at KS tS ⊢
    generalize (w5.heap.size) = wt at tS ⊢
    have HKS := Lib.hid KS
    have HTS := Lib.hid tS
    clear KS tS
    go_upto_region 7 with fail
    refine wp_region_still_tail 5 (by kernel_rfl) (by kernel_rfl) ?_
    simp only [List.take_succ_cons, List.take_zero, List.drop_succ_cons, List.drop_zero]
    generalize hw9 : ({ heap := w8.heap, tape := w8.tape, drawn := w8.drawn + 1, os := w8.os, output := w8.output } : World) = wd
    have td : wd.heap[wt]? = some (.cells ct 93 (0, 0)) := by rw [← hw9]; exact HTS.out
    have kd : Kept w5.heap.size w5.heap.size w5 wd := by rw [← hw9]; exact HKS.out.drew
    have cv : (convert 45 9 (.slice (some ⟨wt, 0, none⟩) 16 16)).run Try.prog wd = .ok (.string (str tg)) wd := by
      rw [← HCT.out] at td
      exact conv_block td tg 16 (by rw [List.take_of_length_le (by rw [HTL.out]; exact Nat.le_refl _)]) HTL.out 16
    have HKD := Lib.hid kd
    clear hw9 td kd
    iterate 5 still_step
    refine wpStill_nil ?_
    refine @BigFrame.wpList_want _ _ _ _ _ _ _ ?hwnq2 ?_
    case hwnq2 => kernel_rfl
    intro K hK
    go_simp
    refine hK _ _ ?_
    clear hK K
    generalize hq : (tg == rs) = q
    cases q with
    | false =>
      go_wp2
      all_goals refine bodyPost_ret (results_tmp2 rfl _ _ _) rfl ?_
      all_goals exact ⟨rfl, HK1.out.trans (HKD.out.mono HK1.out.size (fun i hi _ => by have := HK1.out.size; omega))⟩
    | true =>
      go_upto_region 9 with fail
      refine wp_region_noPanic ?_
      refine wp_region_held_drew (S := fun w' => Kept w5.heap.size w5.heap.size w5 w') (by kernel_rfl) (HKD.out.drew) (fun hH => ?_)
      refine wpAnyH_take_at (i := 0) 29 (.agg kc) rfl rfl (by kernel_rfl) (by kernel_rfl) (by kernel_rfl) (fun _ _ _ h => h) (yieldsIf_load_known (by rfl) 26 _ rfl (wa) (0) rfl (.agg kc) (fun w' hw' => HLD.out w' hw')) hH ?_
      simp only [List.setIfInBounds_toArray, List.set_cons_zero, List.set_cons_succ]
      refine wpAnyH_take_at (i := 1) 30 (.string sx) rfl rfl (by kernel_rfl) (by kernel_rfl) (by kernel_rfl) (fun _ _ _ h => h) (.inl ⟨by rfl, fun w9 _ => by go_simp⟩) hH ?_
      simp only [List.setIfInBounds_toArray, List.set_cons_zero, List.set_cons_succ]
      refine wpAnyH_take_at (i := 2) 31 (.int .i64 (n : Int)) rfl rfl (by kernel_rfl) (by kernel_rfl) (by kernel_rfl) (fun _ _ _ h => h) (.inl ⟨by rfl, fun w9 _ => by go_simp⟩) hH ?_
      simp only [List.setIfInBounds_toArray, List.set_cons_zero, List.set_cons_succ]
      refine wpAnyH_take_at (i := 3) 32 (.string sb) rfl rfl (by kernel_rfl) (by kernel_rfl) (by kernel_rfl) (fun _ _ _ h => h) (.inl ⟨by rfl, fun w9 _ => by go_simp⟩) hH ?_
      simp only [List.setIfInBounds_toArray, List.set_cons_zero, List.set_cons_succ]
      refine wpAnyH_ready (rs := [4]) (by kernel_rfl) (by simp) ?_
      refine AllReadyH.cons rfl (fun K hK => ?_) AllReadyH.nil
      rw [if_pos (by rfl)]
      go_simp
      go_wp2_with (go_at_call 45; refine (HMK.out _).mono ?_; rintro e w10 ⟨gm, rfl, hgm, hrm, k10⟩)
      have K10 : Kept w5.heap.size w5.heap.size w5 w10 := HKD.out.drew.trans (k10.mono HKD.out.drew.size (fun i hi _ => Nat.ne_of_lt (Nat.lt_of_lt_of_le hi HKD.out.drew.size)))
      refine hK.out _ _ (K10) (fun hH => ?_)
      clear hK K
      have cv2 := conv_block hrm cr n (by rw [List.take_of_length_le (by rw [HCL.out]; exact Nat.le_refl _)]) HCL.out n
      refine wpAnyH_ready (rs := [5]) (by kernel_rfl) (by simp) ?_
      refine AllReadyH.cons rfl (fun K hK => ?_) AllReadyH.nil
      rw [if_pos (by rfl)]
      go_simp
      refine hK.out _ _ (K10) (fun hH => ?_)
      clear hK K
      refine wpAnyH_take_at (i := 6) 6 (.string (str cr)) rfl rfl (by kernel_rfl) (by kernel_rfl) (by kernel_rfl) (fun _ _ _ h => h) (.inl ⟨by rfl, fun w9 _ => by go_simp⟩) hH ?_
      simp only [List.setIfInBounds_toArray, List.set_cons_zero, List.set_cons_succ]
      refine wpAnyH_take_at (i := 7) 7 (.int .i64 0) rfl rfl (by kernel_rfl) (by kernel_rfl) (by kernel_rfl) (fun _ _ _ h => h) (.inl ⟨by rfl, fun w9 _ => by go_simp⟩) hH ?_
      simp only [List.setIfInBounds_toArray, List.set_cons_zero, List.set_cons_succ]
      refine wpAnyH_done (by kernel_rfl) ?_ _
      refine NoPanic.normal ?_
      clear cv2
      go_wp2
      refine bodyPost_ret (results_tmp2 rfl _ _ _) rfl ?_
      exact ⟨rfl, HK1.out.trans (K10.mono HK1.out.size (fun i hi _ => by have := HK1.out.size; omega))⟩

end Go.Proofs.Ytohichignjjleaa

namespace Go.Proofs.Ytohichignjjleaa
open Go.RowKit Go.Lib

theorem open_calls (k : List UInt8) (hk : Hid (k.length = 32)) (about : ByteArray) (h1 : Hid (about.size < 268435456)) (s : List UInt8) (hm : (s.length : Int) ≤ 9223372036854775807) (w : World) : Calls Try.prog 63 #[.agg (bcells k).toArray, .string about, .string (str s)] w fun e w' => e = .returned (.tuple #[.string (str (Pm.opened k about.data.toList s).1), .int .i64 (((Pm.opened k about.data.toList s).2 : Nat) : Int)]) ∧ Kept w.heap.size w.heap.size w w' := by
  by_cases h16 : s.length < 16
  · rw [Pm.opened, if_pos h16]
    exact open_short k about s h16 w
  · by_cases hl : 65552 < s.length
    · rw [Pm.opened, if_neg h16, if_pos hl]
      exact open_long k about s hl hm w
    · exact open_right k hk about h1 s (s.length - 16) (by omega) (by omega) w

set_option maxRecDepth 100000 in
set_option maxHeartbeats 3200000 in
theorem unwrap_short (k : List UInt8) (about : ByteArray) (s : List UInt8) (hs : s.length < 48) (w : World) : Calls Try.prog 34 #[.agg (bcells k).toArray, .string about, .string (str s)] w fun e w' => e = .returned (.tuple #[.string ⟨#[]⟩, .int .i64 2]) ∧ Kept w.heap.size w.heap.size w w' := by
  generalize (bcells k).toArray = kc
  have hd : decide (((str s).size : Int) < 48) = true := decide_eq_true (by rw [str_size]; omega)
  generalize str s = sx at hd ⊢
  go_enter Try.func34, Try.ntmps34
  go_wp2
  refine bodyPost_ret (results_tmp2 rfl _ _ _) rfl ?_
  exact ⟨rfl, (Kept.refl _ _ _).alloc (Nat.le_refl _) _⟩

set_option maxRecDepth 100000 in
set_option maxHeartbeats 3200000 in
theorem unwrap_long (k : List UInt8) (hk : Hid (k.length = 32)) (about : ByteArray) (h1 : Hid (about.size < 268435456)) (s : List UInt8) (hs : 48 ≤ s.length) (hm : (s.length : Int) ≤ 9223372036854775807) (w : World) : Calls Try.prog 34 #[.agg (bcells k).toArray, .string about, .string (str s)] w fun e w' => e = .returned (.tuple #[.string (str (Pm.unwrapped k about.data.toList s).1), .int .i64 (((Pm.unwrapped k about.data.toList s).2 : Nat) : Int)]) ∧ Kept w.heap.size w.heap.size w w' := by
  rw [Pm.unwrapped, if_neg (by omega)]
  have hol : (s.take 32).length = 32 := by rw [List.length_take]; omega
  have hx : (str s).extract 32 (str s).size = str (s.drop 32) := str_drop s 32
  have hku := keyInfo hk.out
  have hpb : ∀ w', Calls Try.prog 12 #[.pointer none, .agg (bcells k).toArray] w' fun e w'' => e = .returned (.agg (bcells (Pm.pub k)).toArray) ∧ Kept w'.heap.size w'.heap.size w' w'' := fun w' => pub_nil k hk w'
  have hsk : ∀ w', Calls Try.prog 47 #[.agg (bcells (Pm.pub k)).toArray, .agg (bcells (s.take 32)).toArray] w' fun e w'' => e = .returned (.agg (bcells (Pm.kem (Pm.pub k) (s.take 32))).toArray) ∧ Kept w'.heap.size w'.heap.size w' w'' := fun w' => shared_calls (Pm.pub k) (s.take 32) (Lib.hid (Pm.pub_length k)) (Lib.hid hol) w'
  have hoc : ∀ w', Calls Try.prog 63 #[.agg (bcells (Pm.kem (Pm.pub k) (s.take 32))).toArray, .string about, .string (str (s.drop 32))] w' fun e w'' => e = .returned (.tuple #[.string (str (Pm.opened (Pm.kem (Pm.pub k) (s.take 32)) about.data.toList (s.drop 32)).1), .int .i64 (((Pm.opened (Pm.kem (Pm.pub k) (s.take 32)) about.data.toList (s.drop 32)).2 : Nat) : Int)]) ∧ Kept w'.heap.size w'.heap.size w' w'' := fun w' => open_calls _ (Lib.hid (Pm.kem_length _ _)) about h1 (s.drop 32) (by rw [List.length_drop]; omega) w'
  generalize (Pm.opened (Pm.kem (Pm.pub k) (s.take 32)) about.data.toList (s.drop 32)).2 = er at hoc ⊢
  generalize str (Pm.opened (Pm.kem (Pm.pub k) (s.take 32)) about.data.toList (s.drop 32)).1 = ot at hoc ⊢
  generalize (bcells (Pm.kem (Pm.pub k) (s.take 32))).toArray = cs at hsk hoc
  generalize (bcells (Pm.pub k)).toArray = cp at hpb hsk
  have hoi := keyInfo hol
  have hcpy : ∀ (w' : World) (g : Nat), w'.heap[g]? = some (.cells zeros32 26 (0, 0)) → (Builtin.copy_ #[45, 9] 3 #[.slice (some ⟨g, 0, none⟩) 32 32, .string (str s)]).run Try.prog w' = .ok (goInt 32) (w'.setRow g (bcells (s.take 32)).toArray) := fun w' g hg => by
    have := run_copy_str (P := Try.prog) w' 45 9 3 5 g 0 32 32 (str s) zeros32 26 32 (by rw [str_size]; exact (Nat.min_eq_right (show 32 ≤ s.length by omega)).symm) Try.underlying45 byteInfo1 hg (by rw [zeros32_size]; decide)
    have hr : (zeros32.toList.take 0 ++ bcells ((str s).data.toList.take 32) ++ zeros32.toList.drop (0 + 32)).toArray = (bcells (s.take 32)).toArray := by
      rw [List.take_zero, List.nil_append, Nat.zero_add, List.drop_of_length_le (by rw [Array.length_toList, zeros32_size]; decide), List.append_nil, str_data]
    rw [hr] at this
    exact this
  generalize (bcells (s.take 32)).toArray = oc at hsk hoi hcpy
  have hd : decide (((str s).size : Int) < 48) = false := decide_eq_false (by rw [str_size]; omega)
  have hb1 : (32 : Int) ≤ ((str s).size : Int) := by rw [str_size]; omega
  have hb2 : ¬ (((str s).size : Int) < 32) := by rw [str_size]; omega
  generalize str s = sx at hx hd hb1 hb2 hcpy ⊢
  generalize str (s.drop 32) = sr at hx hoc
  generalize hkc : (bcells k).toArray = kc at hku hpb
  have HKI := Lib.hid hku
  have HPB := Lib.hid hpb
  have HSK := Lib.hid hsk
  have HOC := Lib.hid hoc
  have HOI := Lib.hid hoi
  have HCPY := Lib.hid hcpy
  clear hku hpb hsk hoc hoi hcpy hkc hol
  go_enter Try.func34, Try.ntmps34
  go_upto_region 3 with fail
  have hP : (w.alloc (.cells kc 26)).heap[w.heap.size]? = some (.cells kc 26 (0, 0)) := heap_new _ _
  have k1 : Kept w.heap.size w.heap.size w (w.alloc (.cells kc 26)) := (Kept.refl _ _ _).alloc (Nat.le_refl _) _
  generalize w.alloc (.cells kc 26) = w1 at hP k1 ⊢
  obtain ⟨wa, hwa⟩ : ∃ wa, wa = w.heap.size := ⟨_, rfl⟩
  rw [← hwa] at hP ⊢
  have HK1 := Lib.hid k1
  have HWA := Lib.hid hwa
  clear hwa k1
  refine wp_region_lit ?_
  refine wpList_alloc_k rfl 26 rfl (alloc_zero _) ?_
  simp only [Act.put, List.setIfInBounds_toArray, List.set_cons_zero, List.set_cons_succ]
  have hO : (w1.alloc (.cells zeros32 26)).heap[w1.heap.size]? = some (.cells zeros32 26 (0, 0)) := heap_new _ _
  have k2 : Kept w1.heap.size w1.heap.size w1 (w1.alloc (.cells zeros32 26)) := (Kept.refl _ _ _).alloc (Nat.le_refl _) _
  have hcp := HCPY.out _ _ hO
  have o3 := setRow_heap (w1.alloc (.cells zeros32 26)) w1.heap.size zeros32 oc _ _ hO
  have k3 : Kept w1.heap.size w1.heap.size w1 ((w1.alloc (.cells zeros32 26)).setRow w1.heap.size oc) := Kept.ofBelow (below_setRow (k2.below (Nat.le_refl _) (Nat.le_refl _)) (Nat.le_refl _) oc) (Nat.le_refl _)
  have p3 := (k3.block _ (lt_of_block hP) (Nat.ne_of_lt (lt_of_block hP))).trans hP
  generalize (w1.alloc (.cells zeros32 26)).setRow w1.heap.size oc = w5 at hcp o3 k3 p3
  generalize w1.alloc (.cells zeros32 26) = w2 at hcp ⊢
  generalize w1.heap.size = wo at hcp o3 ⊢
  have Hcp := Lib.hid hcp
  have HO3 := Lib.hid o3
  have HP3 := Lib.hid p3
  have HK3 := Lib.hid k3
  clear hO k2 hcp o3 k3 p3 hP
  go_wp2_with fail
  rw [Hcp.out]
  have hld : ∀ w', Kept w5.heap.size w5.heap.size w5 w' → (loadVar 26 ⟨wa, 0, none⟩).run Try.prog w' = .ok (.agg kc) w' ∧ (loadVar 26 ⟨wo, 0, none⟩).run Try.prog w' = .ok (.agg oc) w' := fun w' kk =>
    ⟨run_loadVar_row w' wa 26 26 kc (0, 0) _ ((kk.block _ (lt_of_block HP3.out) (Nat.ne_of_lt (lt_of_block HP3.out))).trans HP3.out) Try.underlying26 rfl HKI.out, run_loadVar_row w' wo 26 26 oc (0, 0) _ ((kk.block _ (lt_of_block HO3.out) (Nat.ne_of_lt (lt_of_block HO3.out))).trans HO3.out) Try.underlying26 rfl HOI.out⟩
  have HLD := Lib.hid hld
  clear hld
  go_upto_region 5 with fail
  refine wp_region_noPanic ?_
  refine wp_region_held_drew (S := fun w' => Kept w5.heap.size w5.heap.size w5 w') (by kernel_rfl) ((Kept.refl _ _ _).drew) (fun hH => ?_)
  refine wpAnyH_take_at (i := 0) 15 (.agg kc) rfl rfl (by kernel_rfl) (by kernel_rfl) (by kernel_rfl) (fun _ _ _ h => h) (yieldsIf_load_known (by rfl) 26 _ rfl (wa) (0) rfl (.agg kc) (fun w' hw' => (HLD.out w' hw').1)) hH ?_
  simp only [List.setIfInBounds_toArray, List.set_cons_zero, List.set_cons_succ]
  refine wpAnyH_take_at (i := 2) 17 (.agg oc) rfl rfl (by kernel_rfl) (by kernel_rfl) (by kernel_rfl) (fun _ _ _ h => h) (yieldsIf_load_known (by rfl) 26 _ rfl (wo) (0) rfl (.agg oc) (fun w' hw' => (HLD.out w' hw').2)) hH ?_
  simp only [List.setIfInBounds_toArray, List.set_cons_zero, List.set_cons_succ]
  refine wpAnyH_take_at (i := 4) 19 (.string about) rfl rfl (by kernel_rfl) (by kernel_rfl) (by kernel_rfl) (fun _ _ _ h => h) (.inl ⟨by rfl, fun w9 _ => by go_simp⟩) hH ?_
  simp only [List.setIfInBounds_toArray, List.set_cons_zero, List.set_cons_succ]
  refine wpAnyH_take_at (i := 5) 20 (.string sx) rfl rfl (by kernel_rfl) (by kernel_rfl) (by kernel_rfl) (fun _ _ _ h => h) (.inl ⟨by rfl, fun w9 _ => by go_simp⟩) hH ?_
  simp only [List.setIfInBounds_toArray, List.set_cons_zero, List.set_cons_succ]
  refine wpAnyH_take_at (i := 6) 21 (.string sr) rfl rfl (by kernel_rfl) (by kernel_rfl) (by kernel_rfl) (fun _ _ _ h => h) (.inl ⟨by rfl, fun w9 _ => by go_simp⟩) hH ?_
  simp only [List.setIfInBounds_toArray, List.set_cons_zero, List.set_cons_succ]
  refine wpAnyH_ready (rs := [1]) (by kernel_rfl) (by simp) ?_
  refine AllReadyH.cons rfl (fun K hK => ?_) AllReadyH.nil
  rw [if_pos (by rfl)]
  go_simp
  go_wp2_with (go_at_call 12; refine (HPB.out _).mono ?_; rintro e w6 ⟨rfl, k6⟩)
  have K6 : Kept w5.heap.size w5.heap.size w5 w6 := (Kept.refl _ _ _).drew.trans k6
  refine hK.out _ _ (K6) (fun hH => ?_)
  clear hK K
  refine wpAnyH_ready (rs := [3]) (by kernel_rfl) (by simp) ?_
  refine AllReadyH.cons rfl (fun K hK => ?_) AllReadyH.nil
  rw [if_pos (by rfl)]
  go_simp
  go_wp2_with (go_at_call 47; refine (HSK.out _).mono ?_; rintro e w7 ⟨rfl, k7⟩)
  have K7 : Kept w5.heap.size w5.heap.size w5 w7 := K6.trans (k7.mono K6.size (fun i hi _ => Nat.ne_of_lt (Nat.lt_of_lt_of_le hi K6.size)))
  refine hK.out _ _ (K7) (fun hH => ?_)
  clear hK K
  refine wpAnyH_ready (rs := [7]) (by kernel_rfl) (by simp) ?_
  refine AllReadyH.cons rfl (fun K hK => ?_) AllReadyH.nil
  rw [if_pos (by rfl)]
  go_simp
  go_wp2_with (go_at_call 63; refine (HOC.out _).mono ?_; rintro e w8 ⟨rfl, k8⟩)
  have K8 : Kept w5.heap.size w5.heap.size w5 w8 := K7.trans (k8.mono K7.size (fun i hi _ => Nat.ne_of_lt (Nat.lt_of_lt_of_le hi K7.size)))
  refine hK.out _ _ (K8) (fun hH => ?_)
  clear hK K
  refine wpAnyH_take_at (i := 8) 23 (.string ot) rfl rfl (by kernel_rfl) (by kernel_rfl) (by kernel_rfl) (fun _ _ _ h => h) (.inl ⟨by rfl, fun w9 _ => by go_simp⟩) hH ?_
  simp only [List.setIfInBounds_toArray, List.set_cons_zero, List.set_cons_succ]
  refine wpAnyH_take_at (i := 9) 24 (.int .i64 (er : Int)) rfl rfl (by kernel_rfl) (by kernel_rfl) (by kernel_rfl) (fun _ _ _ h => h) (.inl ⟨by rfl, fun w9 _ => by go_simp⟩) hH ?_
  simp only [List.setIfInBounds_toArray, List.set_cons_zero, List.set_cons_succ]
  refine wpAnyH_take_at (i := 10) 6 (.string ot) rfl rfl (by kernel_rfl) (by kernel_rfl) (by kernel_rfl) (fun _ _ _ h => h) (.inl ⟨by rfl, fun w9 _ => by go_simp⟩) hH ?_
  simp only [List.setIfInBounds_toArray, List.set_cons_zero, List.set_cons_succ]
  refine wpAnyH_take_at (i := 11) 7 (.int .i64 (er : Int)) rfl rfl (by kernel_rfl) (by kernel_rfl) (by kernel_rfl) (fun _ _ _ h => h) (.inl ⟨by rfl, fun w9 _ => by go_simp⟩) hH ?_
  simp only [List.setIfInBounds_toArray, List.set_cons_zero, List.set_cons_succ]
  refine wpAnyH_done (by kernel_rfl) ?_ _
  refine NoPanic.normal ?_
  have t1 := HK3.out.trans (K8.mono HK3.out.size (fun i hi _ => by have := HK3.out.size; omega))
  go_wp2
  refine bodyPost_ret (results_tmp2 rfl _ _ _) rfl ?_
  exact ⟨rfl, HK1.out.trans (t1.mono HK1.out.size (fun i hi _ => by have := HK1.out.size; omega))⟩

theorem unwrap_calls (k : List UInt8) (hk : Hid (k.length = 32)) (about : ByteArray) (h1 : Hid (about.size < 268435456)) (s : List UInt8) (hm : (s.length : Int) ≤ 9223372036854775807) (w : World) : Calls Try.prog 34 #[.agg (bcells k).toArray, .string about, .string (str s)] w fun e w' => e = .returned (.tuple #[.string (str (Pm.unwrapped k about.data.toList s).1), .int .i64 (((Pm.unwrapped k about.data.toList s).2 : Nat) : Int)]) ∧ Kept w.heap.size w.heap.size w w' := by
  by_cases h48 : s.length < 48
  · rw [Pm.unwrapped, if_pos h48]
    exact unwrap_short k about s h48 w
  · exact unwrap_long k hk about h1 s (by omega) hm w

end Go.Proofs.Ytohichignjjleaa

namespace Go.Proofs.Ytohichignjjleaa
open Go.RowKit Go.Lib

set_option maxRecDepth 100000 in
set_option maxHeartbeats 3200000 in
theorem wrap_of (a k : List UInt8) (ha : Hid (a.length = 32)) (hk : Hid (k.length = 32)) (about : ByteArray) (s sl : List UInt8) (hsl : sl.length ≤ 100000) (w : World)
    (hseal : ∀ w', Calls Try.prog 13 #[.pointer none, .agg (bcells (Pm.kem a k)).toArray, .string about, .string (str s), .slice none 0 0] w' fun e w'' => e = .returned (.string (str sl)) ∧ Kept w'.heap.size w'.heap.size w' w'') :
    Calls Try.prog 16 #[.pointer none, .agg (bcells a).toArray, .agg (bcells k).toArray, .string about, .string (str s), .slice none 0 0] w fun e w' => e = .returned (.string (if (sl == []) = true then ⟨#[]⟩ else str (k ++ sl))) ∧ Kept w.heap.size w.heap.size w w' := by
  generalize str s = sx at hseal ⊢
  have hkl : str (k ++ sl) = str k ++ str sl := (str_append k sl).symm
  rw [hkl]
  have hiaa := keyInfo ha.out
  have hkka := keyInfo hk.out
  have hzaa : (bcells a).toArray.size = 32 := by rw [List.size_toArray, bcells_length, ha.out]
  have hzkk : (bcells k).toArray.size = 32 := by rw [List.size_toArray, bcells_length, hk.out]
  have hml : (Pm.mark a).length = 32 := Pm.mark_length _
  have hmz : (bcells (Pm.mark a)).toArray.size = 32 := by rw [List.size_toArray, bcells_length, hml]
  have hsh : ∀ w', Calls Try.prog 47 #[.agg (bcells a).toArray, .agg (bcells k).toArray] w' fun e w'' => e = .returned (.agg (bcells (Pm.kem a k)).toArray) ∧ Kept w'.heap.size w'.heap.size w' w'' := fun w' => shared_calls a k ha hk w'
  have hmk : ∀ w', Calls Try.prog 44 #[.agg (bcells a).toArray] w' fun e w'' => e = .returned (.agg (bcells (Pm.mark a)).toArray) ∧ Kept w'.heap.size w'.heap.size w' w'' := fun w' => mark_calls a ha w'
  have hdl : (Pm.kem a k).length = 32 := Pm.kem_length _ _
  have hmn : ∀ (x y : List UInt8) (w' : World) (g h : Nat), x.length = 32 → y.length = 32 → w'.heap[g]? = some (.cells (bcells x).toArray 26 (0, 0)) → w'.heap[h]? = some (.cells (bcells y).toArray 26 (0, 0)) → Calls Try.prog 39 #[.pointer none, .slice (some ⟨g, 0, none⟩) 1 1, .slice (some ⟨h, 0, none⟩) 1 1] w' fun e w'' => e = .returned (.tuple #[]) ∧ Kept w'.heap.size w'.heap.size w' w'' := fun x y w' g h hx hy hg hh => pnote_nil ([x], [y]) _ _ w' (hs_one hx hg) (hs_one hy hh)
  have hiu := keyInfo hdl
  have hzu := keySize hdl
  have hcs : (bcells (Pm.kem a k)).toArray.size = 32 := by rw [List.size_toArray, bcells_length, hdl]
  have hall := bcells_all (Pm.kem a k)
  have hm1 := fun w' g h => hmn (Pm.mark a) (Pm.kem a k) w' g h hml hdl
  have hm2 := fun w' g h => hmn k (Pm.kem a k) w' g h hk.out hdl
  clear hmn
  generalize (bcells (Pm.mark a)).toArray = cm at hmk hmz hm1
  generalize (bcells (Pm.kem a k)).toArray = cu at hsh hseal hiu hzu hcs hall hm1 hm2
  have hcvk : ∀ (w' : World) (g : Nat), w'.heap[g]? = some (.cells (bcells k).toArray 26 (0, 0)) → (convert 45 9 (.slice (some ⟨g, 0, none⟩) 32 32)).run Try.prog w' = .ok (.string (str k)) w' := fun w' g hg => conv_hash hk.out hg
  generalize (bcells a).toArray = ac at hiaa hzaa hsh hmk ⊢
  generalize (bcells k).toArray = kc at hkka hzkk hsh hm2 hcvk ⊢
  obtain ⟨sk, hsk⟩ : ∃ sk, sk = str k := ⟨_, rfl⟩
  rw [← hsk] at hcvk
  have hkz : sk.size ≤ 100 := by rw [hsk, str_size, hk.out]; decide
  have HSKK := Lib.hid hsk
  have HAI := Lib.hid hiaa
  have HKI := Lib.hid hkka
  have HA32 := Lib.hid hzaa
  have HK32 := Lib.hid hzkk
  have HMZ := Lib.hid hmz
  have HSH := Lib.hid hsh
  have HMK := Lib.hid hmk
  have HM1 := Lib.hid hm1
  have HM2 := Lib.hid hm2
  have HCV := Lib.hid hcvk
  have HIU := Lib.hid hiu
  have HZU := Lib.hid hzu
  have Hcs := Lib.hid hcs
  have HALL := Lib.hid hall
  have HSEAL := Lib.hid hseal
  clear hiaa hkka hzaa hzkk hml hmz hsh hmk hdl hiu hzu hcs hall hm1 hm2 hcvk hseal hsk
  rw [← HSKK.out]
  have hz2 : (str sl).size ≤ 100000 := by rw [str_size]; exact hsl
  clear hkl
  obtain ⟨i0, z0, hi0, hz0, hzs0, hs0, hb0⟩ := hash_info
  have HI0 := Lib.hid hi0
  have HZ0 := Lib.hid hz0
  have HS0 := Lib.hid hs0
  clear hi0 hz0 hzs0 hs0 hb0
  go_enter Try.func16, Try.ntmps16
  go_upto_region 1 with fail
  obtain ⟨w1, hw1⟩ : ∃ w1, w1 = (w.alloc (.cells ac 26)).alloc (.cells kc 26) := ⟨_, rfl⟩
  have hQ : w1.heap[w.heap.size]? = some (.cells ac 26 (0, 0)) := by rw [hw1]; exact heap_alloc2_old w _ _
  have hP : w1.heap[w.heap.size + 1]? = some (.cells kc 26 (0, 0)) := by rw [hw1]; exact heap_alloc2_last w _ _
  have k1 : Kept w.heap.size w.heap.size w w1 := by rw [hw1]; exact ((Kept.refl _ _ _).alloc (Nat.le_refl _) _).alloc (by simp) _
  rw [← hw1]
  clear hw1
  obtain ⟨wa, hwa⟩ : ∃ wa, wa = w.heap.size := ⟨_, rfl⟩
  rw [← hwa] at hP hQ ⊢
  have hkey : ∀ w', Kept w1.heap.size w1.heap.size w1 w' → w'.heap[wa]? = some (.cells ac 26 (0, 0)) ∧ w'.heap[wa + 1]? = some (.cells kc 26 (0, 0)) := fun w' kk => ⟨(kk.block _ (lt_of_block hQ) (Nat.ne_of_lt (lt_of_block hQ))).trans hQ, (kk.block _ (lt_of_block hP) (Nat.ne_of_lt (lt_of_block hP))).trans hP⟩
  have HKEY := Lib.hid hkey
  have HK1 := Lib.hid k1
  have HWA := Lib.hid hwa
  clear hkey k1 hwa hP hQ
  refine wp_region_lit ?_
  refine wpList_load_row_g ?hwa0 26 _ rfl (wa) rfl 26 ac (0, 0) _ ((HKEY.out _ (Kept.refl _ _ _)).1) Try.underlying26 rfl HAI.out ?_
  case hwa0 => kernel_rfl
  simp only [Act.put, List.setIfInBounds_toArray, List.set_cons_zero, List.set_cons_succ]
  refine wpList_load_row_g ?hwa1 26 _ rfl (wa + 1) rfl 26 kc (0, 0) _ ((HKEY.out _ (Kept.refl _ _ _)).2) Try.underlying26 rfl HKI.out ?_
  case hwa1 => kernel_rfl
  simp only [Act.put, List.setIfInBounds_toArray, List.set_cons_zero, List.set_cons_succ]
  refine @BigFrame.wpList_want _ _ _ _ _ _ _ ?hwa2 ?_
  case hwa2 => kernel_rfl
  intro K hK
  go_simp
  go_at_call 47; refine (HSH.out _).mono ?_; rintro e w3 ⟨rfl, k3⟩
  refine hK _ _ ?_
  clear hK K
  refine wpList_alloc_k rfl 26 rfl (alloc_zero _) ?_
  simp only [Act.put, List.setIfInBounds_toArray, List.set_cons_zero, List.set_cons_succ]
  refine wpList_store_row rfl 26 _ _ rfl (w3.heap.size) cu rfl rfl 26 zeros32 (heap_new _ _) HIU.out HZU.out HALL.out ?_
  simp only [Act.put]
  have K4 : Kept w1.heap.size w1.heap.size w1 (w3.alloc (.cells zeros32 26)) := k3.alloc k3.size _
  have K5 : Kept w1.heap.size w1.heap.size w1 ((w3.alloc (.cells zeros32 26)).setRow w3.heap.size cu) := Kept.ofBelow (below_setRow (K4.below (Nat.le_refl _) (Nat.le_refl _)) k3.size cu) (Nat.le_refl _)
  have r5 := setRow_heap (w3.alloc (.cells zeros32 26)) w3.heap.size zeros32 cu _ _ (heap_new _ _)
  generalize (w3.alloc (.cells zeros32 26)).setRow w3.heap.size cu = w5 at K5 r5 ⊢
  have hwm : w1.heap.size ≤ w3.heap.size := k3.size
  generalize w3.heap.size = wm at r5 hwm ⊢
  clear K4
  have hld : ∀ w', Kept w5.heap.size w5.heap.size w5 w' → w'.heap[wa]? = some (.cells ac 26 (0, 0)) ∧ w'.heap[wa + 1]? = some (.cells kc 26 (0, 0)) ∧ w'.heap[wm]? = some (.cells cu 26 (0, 0)) := fun w' kk => by
    have rk := HKEY.out w5 K5
    exact ⟨(kk.block _ (lt_of_block rk.1) (Nat.ne_of_lt (lt_of_block rk.1))).trans rk.1, (kk.block _ (lt_of_block rk.2) (Nat.ne_of_lt (lt_of_block rk.2))).trans rk.2, (kk.block _ (lt_of_block r5) (Nat.ne_of_lt (lt_of_block r5))).trans r5⟩
  have HLD := Lib.hid hld
  have HK5 := Lib.hid K5
  clear hld r5 K5 k3 hwm
  go_upto_region 2 with fail
  refine wp_region_noPanic ?_
  refine wp_region_held_drew (S := fun w' => Kept w5.heap.size w5.heap.size w5 w') (by kernel_rfl) ((Kept.refl _ _ _).drew) (fun hH => ?_)
  refine wpAnyH_take_at (i := 0) 18 (.pointer none) rfl rfl (by kernel_rfl) (by kernel_rfl) (by kernel_rfl) (fun _ _ _ h => h) (.inl ⟨by rfl, fun w9 _ => by go_simp⟩) hH ?_
  simp only [List.setIfInBounds_toArray, List.set_cons_zero, List.set_cons_succ]
  refine wpAnyH_take_at (i := 1) 19 (.agg ac) rfl rfl (by kernel_rfl) (by kernel_rfl) (by kernel_rfl) (fun _ _ _ h => h) (yieldsIf_load_known (by rfl) 26 _ rfl (wa) (0) rfl (.agg ac) (fun w' hw' => run_loadVar_row w' (wa) 26 26 ac (0, 0) _ ((HLD.out w' hw').1) Try.underlying26 rfl HAI.out)) hH ?_
  simp only [List.setIfInBounds_toArray, List.set_cons_zero, List.set_cons_succ]
  refine wpAnyH_take_at (i := 4) 22 (.agg cu) rfl rfl (by kernel_rfl) (by kernel_rfl) (by kernel_rfl) (fun _ _ _ h => h) (yieldsIf_load_known (by rfl) 26 _ rfl (wm) (0) rfl (.agg cu) (fun w' hw' => run_loadVar_row w' (wm) 26 26 cu (0, 0) _ ((HLD.out w' hw').2.2) Try.underlying26 rfl HIU.out)) hH ?_
  simp only [List.setIfInBounds_toArray, List.set_cons_zero, List.set_cons_succ]
  refine wpAnyH_ready (rs := [2, 5]) (by kernel_rfl) (by simp) ?_
  refine AllReadyH.cons rfl (fun K hK => ?_) ?_
  · rw [if_pos (by rfl)]
    go_simp
    go_wp2_with (go_at_call 44; refine (HMK.out _).mono ?_; rintro e w6 ⟨rfl, k6⟩)
    have KB : Kept w5.heap.size w5.heap.size w5 w6 := (Kept.refl _ _ _).drew.trans k6
    refine hK.out _ _ (KB) (fun hH => ?_)
    clear hK K
    refine wpAnyH_ready (rs := [3, 5]) (by kernel_rfl) (by simp) ?_
    refine AllReadyH.cons rfl (fun K hK => ?_) ?_
    · rw [if_pos (by rfl)]
      refine wp_build_one _ 23 26 rfl i0 z0 Try.underlying23 HI0.out HZ0.out cm rfl (by rw [HS0.out]; exact HMZ.out) (by rw [HS0.out]; decide) (by rw [HS0.out]; decide) ?_
      simp only [Act.put, List.setIfInBounds_toArray]
      have KA : Kept w5.heap.size w5.heap.size w5 (w6.alloc (.cells cm 26)) := KB.alloc KB.size _
      have rA : (w6.alloc (.cells cm 26)).heap[w6.heap.size]? = some (.cells cm 26 (0, 0)) := heap_new _ _
      have sA : (w6.alloc (.cells cm 26)).heap.size = w6.heap.size + 1 := by simp
      refine hK.out _ _ (KA) (fun hH => ?_)
      clear hK K
      refine wpAnyH_ready (rs := [5]) (by kernel_rfl) (by simp) ?_
      refine AllReadyH.cons rfl (fun K hK => ?_) AllReadyH.nil
      rw [if_pos (by rfl)]
      refine wp_build_one _ 23 26 rfl i0 z0 Try.underlying23 HI0.out HZ0.out cu rfl (by rw [HS0.out]; exact Hcs.out) (by rw [HS0.out]; decide) (by rw [HS0.out]; decide) ?_
      simp only [Act.put]
      have KC : Kept w5.heap.size w5.heap.size w5 ((w6.alloc (.cells cm 26)).alloc (.cells cu 26)) := KA.alloc KA.size _
      have rC : ((w6.alloc (.cells cm 26)).alloc (.cells cu 26)).heap[w6.heap.size]? = some (.cells cm 26 (0, 0)) := by rw [Below.heap_alloc _ _ _ (lt_of_block rA)]; exact rA
      have rD : ((w6.alloc (.cells cm 26)).alloc (.cells cu 26)).heap[w6.heap.size + 1]? = some (.cells cu 26 (0, 0)) := by rw [← sA]; exact heap_new _ _
      refine hK.out _ _ (KC) (fun hH => ?_)
      clear hK K
      refine wpAnyH_ready (rs := [6]) (by kernel_rfl) (by simp) ?_
      refine AllReadyH.cons rfl (fun K hK => ?_) AllReadyH.nil
      rw [if_pos (by rfl)]
      go_simp
      go_wp2_with (go_at_call 39; refine (HM1.out _ (w6.heap.size) (w6.heap.size + 1) (rC) (rD)).mono ?_; rintro e w8 ⟨rfl, k8⟩)
      have J8 : Kept w5.heap.size w5.heap.size w5 w8 := KC.trans (k8.mono KC.size (fun i hi _ => Nat.ne_of_lt (Nat.lt_of_lt_of_le hi KC.size)))
      refine hK.out _ _ (J8) (fun hH => ?_)
      clear hK K
      refine wpAnyH_done (by kernel_rfl) ?_ _
      refine NoPanic.normal ?_
      have KA8 : Kept w8.heap.size w8.heap.size w8 (w8.alloc (.cells kc 26)) := (Kept.refl _ _ _).alloc (Nat.le_refl _) _
      have sA8 : (w8.alloc (.cells kc 26)).heap.size = w8.heap.size + 1 := by simp
      have JA : Kept w5.heap.size w5.heap.size w5 (w8.alloc (.cells kc 26)) := J8.alloc J8.size _
      have JB : Kept w5.heap.size w5.heap.size w5 ((w8.alloc (.cells kc 26)).alloc (.cells cu 26)) := JA.alloc JA.size _
      have hN2 := HM2.out ((w8.alloc (.cells kc 26)).alloc (.cells cu 26)) w8.heap.size (w8.heap.size + 1) (by rw [Below.heap_alloc _ _ _ (by omega)]; exact heap_new _ _) (by rw [← sA8]; exact heap_new _ _)
      have HN2 := Lib.hid hN2
      have HJA := Lib.hid JA
      have HJB := Lib.hid JB
      have HJ8 := Lib.hid J8
      clear KA8 sA8 hN2 JA JB J8 k8
      go_upto_region 3 with fail
      refine wp_region_lit ?_
      refine @BigFrame.wpList_want _ _ _ _ _ _ _ ?hwl1a ?_
      case hwl1a => kernel_rfl
      intro K hK
      go_simp
      refine hK _ _ ?_
      clear hK K
      refine wpList_load_row_g ?hwl1b 26 _ rfl (wa + 1) rfl 26 kc (0, 0) _ ((HLD.out w8 HJ8.out).2.1) Try.underlying26 rfl HKI.out ?_
      case hwl1b => kernel_rfl
      simp only [Act.put, List.setIfInBounds_toArray, List.set_cons_zero, List.set_cons_succ]
      refine wpList_build_one_g ?hwl1c _ 23 26 rfl i0 z0 Try.underlying23 HI0.out HZ0.out kc rfl (by rw [HS0.out]; exact HK32.out) (by rw [HS0.out]; decide) (by rw [HS0.out]; decide) ?_
      case hwl1c => kernel_rfl
      simp only [Act.put, List.setIfInBounds_toArray, List.set_cons_zero, List.set_cons_succ]
      refine wpList_load_row_g ?hwl1d 26 _ rfl (wm) rfl 26 cu (0, 0) _ ((HLD.out _ HJA.out).2.2) Try.underlying26 rfl HIU.out ?_
      case hwl1d => kernel_rfl
      simp only [Act.put, List.setIfInBounds_toArray, List.set_cons_zero, List.set_cons_succ]
      refine wpList_build_one_g ?hwl1e _ 23 26 rfl i0 z0 Try.underlying23 HI0.out HZ0.out cu rfl (by rw [HS0.out]; exact Hcs.out) (by rw [HS0.out]; decide) (by rw [HS0.out]; decide) ?_
      case hwl1e => kernel_rfl
      simp only [Act.put, List.setIfInBounds_toArray, List.set_cons_zero, List.set_cons_succ]
      refine @BigFrame.wpList_want _ _ _ _ _ _ _ ?hwl1f ?_
      case hwl1f => kernel_rfl
      intro K hK
      go_simp
      go_at_call 39; refine HN2.out.mono ?_; rintro e w9 ⟨rfl, k9⟩
      refine hK _ _ ?_
      clear hK K
      have J9 : Kept w5.heap.size w5.heap.size w5 w9 := HJB.out.trans (k9.mono HJB.out.size (fun i hi _ => Nat.ne_of_lt (Nat.lt_of_lt_of_le hi HJB.out.size)))
      have HJ9 := Lib.hid J9
      clear J9 k9
      go_upto_region 4 with fail
      refine wp_region_lit ?_
      refine @BigFrame.wpList_want _ _ _ _ _ _ _ ?hwl1g ?_
      case hwl1g => kernel_rfl
      intro K hK
      go_simp
      refine hK _ _ ?_
      clear hK K
      refine wpList_load_row_g ?hwl1h 26 _ rfl (wm) rfl 26 cu (0, 0) _ ((HLD.out w9 HJ9.out).2.2) Try.underlying26 rfl HIU.out ?_
      case hwl1h => kernel_rfl
      simp only [Act.put, List.setIfInBounds_toArray, List.set_cons_zero, List.set_cons_succ]
      refine @BigFrame.wpList_want _ _ _ _ _ _ _ ?hwl1i ?_
      case hwl1i => kernel_rfl
      intro K hK
      go_simp
      refine hK _ _ ?_
      clear hK K
      refine @BigFrame.wpList_want _ _ _ _ _ _ _ ?hwl1j ?_
      case hwl1j => kernel_rfl
      intro K hK
      go_simp
      refine hK _ _ ?_
      clear hK K
      refine @BigFrame.wpList_want _ _ _ _ _ _ _ ?hwl1k ?_
      case hwl1k => kernel_rfl
      intro K hK
      go_simp
      refine hK _ _ ?_
      clear hK K
      refine @BigFrame.wpList_want _ _ _ _ _ _ _ ?hwl1m ?_
      case hwl1m => kernel_rfl
      intro K hK
      go_simp
      go_at_call 13; refine (HSEAL.out _).mono ?_; rintro e w10 ⟨rfl, k10⟩
      refine hK _ _ ?_
      clear hK K
      refine @BigFrame.wpList_want _ _ _ _ _ _ _ ?hwl1n ?_
      case hwl1n => kernel_rfl
      intro K hK
      go_simp
      refine hK _ _ ?_
      clear hK K
      have J10 : Kept w5.heap.size w5.heap.size w5 w10 := HJ9.out.trans (k10.mono HJ9.out.size (fun i hi _ => Nat.ne_of_lt (Nat.lt_of_lt_of_le hi HJ9.out.size)))
      have cv := HCV.out w10 (wa + 1) (HLD.out w10 J10).2.1
      have HJ10 := Lib.hid J10
      clear J10 k10
      go_upto_region 5 with fail
      refine wp_region_lit ?_
      refine @BigFrame.wpList_want _ _ _ _ _ _ _ ?hwl1o ?_
      case hwl1o => kernel_rfl
      intro K hK
      go_simp
      refine hK _ _ ?_
      clear hK K
      refine @BigFrame.wpList_want _ _ _ _ _ _ _ ?hwl1p ?_
      case hwl1p => kernel_rfl
      intro K hK
      go_simp
      refine hK _ _ ?_
      clear hK K
      generalize hq : (sl == []) = qb
      have HEND := Lib.hid (HK1.out.trans ((HK5.out.trans (HJ10.out.mono HK5.out.size (fun i hi _ => by have := HK5.out.size; omega))).mono HK1.out.size (fun i hi _ => by have := HK1.out.size; omega)))
      cases qb with
      | true =>
        go_wp2
        all_goals go_ret
        all_goals first
          | exact ⟨rfl, HEND.out⟩
          | (exfalso; simp_all; done)
      | false =>
        go_wp2
        all_goals go_ret
        all_goals first
          | exact ⟨rfl, HEND.out⟩
          | (exfalso; simp_all; done)
    · refine AllReadyH.cons rfl (fun K hK => ?_) AllReadyH.nil
      rw [if_pos (by rfl)]
      refine wp_build_one _ 23 26 rfl i0 z0 Try.underlying23 HI0.out HZ0.out cu rfl (by rw [HS0.out]; exact Hcs.out) (by rw [HS0.out]; decide) (by rw [HS0.out]; decide) ?_
      simp only [Act.put, List.setIfInBounds_toArray]
      have KA : Kept w5.heap.size w5.heap.size w5 (w6.alloc (.cells cu 26)) := KB.alloc KB.size _
      have rA : (w6.alloc (.cells cu 26)).heap[w6.heap.size]? = some (.cells cu 26 (0, 0)) := heap_new _ _
      have sA : (w6.alloc (.cells cu 26)).heap.size = w6.heap.size + 1 := by simp
      refine hK.out _ _ (KA) (fun hH => ?_)
      clear hK K
      refine wpAnyH_ready (rs := [3]) (by kernel_rfl) (by simp) ?_
      refine AllReadyH.cons rfl (fun K hK => ?_) AllReadyH.nil
      rw [if_pos (by rfl)]
      refine wp_build_one _ 23 26 rfl i0 z0 Try.underlying23 HI0.out HZ0.out cm rfl (by rw [HS0.out]; exact HMZ.out) (by rw [HS0.out]; decide) (by rw [HS0.out]; decide) ?_
      simp only [Act.put]
      have KC : Kept w5.heap.size w5.heap.size w5 ((w6.alloc (.cells cu 26)).alloc (.cells cm 26)) := KA.alloc KA.size _
      have rC : ((w6.alloc (.cells cu 26)).alloc (.cells cm 26)).heap[w6.heap.size]? = some (.cells cu 26 (0, 0)) := by rw [Below.heap_alloc _ _ _ (lt_of_block rA)]; exact rA
      have rD : ((w6.alloc (.cells cu 26)).alloc (.cells cm 26)).heap[w6.heap.size + 1]? = some (.cells cm 26 (0, 0)) := by rw [← sA]; exact heap_new _ _
      refine hK.out _ _ (KC) (fun hH => ?_)
      clear hK K
      refine wpAnyH_ready (rs := [6]) (by kernel_rfl) (by simp) ?_
      refine AllReadyH.cons rfl (fun K hK => ?_) AllReadyH.nil
      rw [if_pos (by rfl)]
      go_simp
      go_wp2_with (go_at_call 39; refine (HM1.out _ (w6.heap.size + 1) (w6.heap.size) (rD) (rC)).mono ?_; rintro e w8 ⟨rfl, k8⟩)
      have J8 : Kept w5.heap.size w5.heap.size w5 w8 := KC.trans (k8.mono KC.size (fun i hi _ => Nat.ne_of_lt (Nat.lt_of_lt_of_le hi KC.size)))
      refine hK.out _ _ (J8) (fun hH => ?_)
      clear hK K
      refine wpAnyH_done (by kernel_rfl) ?_ _
      refine NoPanic.normal ?_
      have KA8 : Kept w8.heap.size w8.heap.size w8 (w8.alloc (.cells kc 26)) := (Kept.refl _ _ _).alloc (Nat.le_refl _) _
      have sA8 : (w8.alloc (.cells kc 26)).heap.size = w8.heap.size + 1 := by simp
      have JA : Kept w5.heap.size w5.heap.size w5 (w8.alloc (.cells kc 26)) := J8.alloc J8.size _
      have JB : Kept w5.heap.size w5.heap.size w5 ((w8.alloc (.cells kc 26)).alloc (.cells cu 26)) := JA.alloc JA.size _
      have hN2 := HM2.out ((w8.alloc (.cells kc 26)).alloc (.cells cu 26)) w8.heap.size (w8.heap.size + 1) (by rw [Below.heap_alloc _ _ _ (by omega)]; exact heap_new _ _) (by rw [← sA8]; exact heap_new _ _)
      have HN2 := Lib.hid hN2
      have HJA := Lib.hid JA
      have HJB := Lib.hid JB
      have HJ8 := Lib.hid J8
      clear KA8 sA8 hN2 JA JB J8 k8
      go_upto_region 3 with fail
      refine wp_region_lit ?_
      refine @BigFrame.wpList_want _ _ _ _ _ _ _ ?hwl2a ?_
      case hwl2a => kernel_rfl
      intro K hK
      go_simp
      refine hK _ _ ?_
      clear hK K
      refine wpList_load_row_g ?hwl2b 26 _ rfl (wa + 1) rfl 26 kc (0, 0) _ ((HLD.out w8 HJ8.out).2.1) Try.underlying26 rfl HKI.out ?_
      case hwl2b => kernel_rfl
      simp only [Act.put, List.setIfInBounds_toArray, List.set_cons_zero, List.set_cons_succ]
      refine wpList_build_one_g ?hwl2c _ 23 26 rfl i0 z0 Try.underlying23 HI0.out HZ0.out kc rfl (by rw [HS0.out]; exact HK32.out) (by rw [HS0.out]; decide) (by rw [HS0.out]; decide) ?_
      case hwl2c => kernel_rfl
      simp only [Act.put, List.setIfInBounds_toArray, List.set_cons_zero, List.set_cons_succ]
      refine wpList_load_row_g ?hwl2d 26 _ rfl (wm) rfl 26 cu (0, 0) _ ((HLD.out _ HJA.out).2.2) Try.underlying26 rfl HIU.out ?_
      case hwl2d => kernel_rfl
      simp only [Act.put, List.setIfInBounds_toArray, List.set_cons_zero, List.set_cons_succ]
      refine wpList_build_one_g ?hwl2e _ 23 26 rfl i0 z0 Try.underlying23 HI0.out HZ0.out cu rfl (by rw [HS0.out]; exact Hcs.out) (by rw [HS0.out]; decide) (by rw [HS0.out]; decide) ?_
      case hwl2e => kernel_rfl
      simp only [Act.put, List.setIfInBounds_toArray, List.set_cons_zero, List.set_cons_succ]
      refine @BigFrame.wpList_want _ _ _ _ _ _ _ ?hwl2f ?_
      case hwl2f => kernel_rfl
      intro K hK
      go_simp
      go_at_call 39; refine HN2.out.mono ?_; rintro e w9 ⟨rfl, k9⟩
      refine hK _ _ ?_
      clear hK K
      have J9 : Kept w5.heap.size w5.heap.size w5 w9 := HJB.out.trans (k9.mono HJB.out.size (fun i hi _ => Nat.ne_of_lt (Nat.lt_of_lt_of_le hi HJB.out.size)))
      have HJ9 := Lib.hid J9
      clear J9 k9
      go_upto_region 4 with fail
      refine wp_region_lit ?_
      refine @BigFrame.wpList_want _ _ _ _ _ _ _ ?hwl2g ?_
      case hwl2g => kernel_rfl
      intro K hK
      go_simp
      refine hK _ _ ?_
      clear hK K
      refine wpList_load_row_g ?hwl2h 26 _ rfl (wm) rfl 26 cu (0, 0) _ ((HLD.out w9 HJ9.out).2.2) Try.underlying26 rfl HIU.out ?_
      case hwl2h => kernel_rfl
      simp only [Act.put, List.setIfInBounds_toArray, List.set_cons_zero, List.set_cons_succ]
      refine @BigFrame.wpList_want _ _ _ _ _ _ _ ?hwl2i ?_
      case hwl2i => kernel_rfl
      intro K hK
      go_simp
      refine hK _ _ ?_
      clear hK K
      refine @BigFrame.wpList_want _ _ _ _ _ _ _ ?hwl2j ?_
      case hwl2j => kernel_rfl
      intro K hK
      go_simp
      refine hK _ _ ?_
      clear hK K
      refine @BigFrame.wpList_want _ _ _ _ _ _ _ ?hwl2k ?_
      case hwl2k => kernel_rfl
      intro K hK
      go_simp
      refine hK _ _ ?_
      clear hK K
      refine @BigFrame.wpList_want _ _ _ _ _ _ _ ?hwl2m ?_
      case hwl2m => kernel_rfl
      intro K hK
      go_simp
      go_at_call 13; refine (HSEAL.out _).mono ?_; rintro e w10 ⟨rfl, k10⟩
      refine hK _ _ ?_
      clear hK K
      refine @BigFrame.wpList_want _ _ _ _ _ _ _ ?hwl2n ?_
      case hwl2n => kernel_rfl
      intro K hK
      go_simp
      refine hK _ _ ?_
      clear hK K
      have J10 : Kept w5.heap.size w5.heap.size w5 w10 := HJ9.out.trans (k10.mono HJ9.out.size (fun i hi _ => Nat.ne_of_lt (Nat.lt_of_lt_of_le hi HJ9.out.size)))
      have cv := HCV.out w10 (wa + 1) (HLD.out w10 J10).2.1
      have HJ10 := Lib.hid J10
      clear J10 k10
      go_upto_region 5 with fail
      refine wp_region_lit ?_
      refine @BigFrame.wpList_want _ _ _ _ _ _ _ ?hwl2o ?_
      case hwl2o => kernel_rfl
      intro K hK
      go_simp
      refine hK _ _ ?_
      clear hK K
      refine @BigFrame.wpList_want _ _ _ _ _ _ _ ?hwl2p ?_
      case hwl2p => kernel_rfl
      intro K hK
      go_simp
      refine hK _ _ ?_
      clear hK K
      generalize hq : (sl == []) = qb
      have HEND := Lib.hid (HK1.out.trans ((HK5.out.trans (HJ10.out.mono HK5.out.size (fun i hi _ => by have := HK5.out.size; omega))).mono HK1.out.size (fun i hi _ => by have := HK1.out.size; omega)))
      cases qb with
      | true =>
        go_wp2
        all_goals go_ret
        all_goals first
          | exact ⟨rfl, HEND.out⟩
          | (exfalso; simp_all; done)
      | false =>
        go_wp2
        all_goals go_ret
        all_goals first
          | exact ⟨rfl, HEND.out⟩
          | (exfalso; simp_all; done)
  · refine AllReadyH.cons rfl (fun K hK => ?_) AllReadyH.nil
    rw [if_pos (by rfl)]
    refine wp_build_one _ 23 26 rfl i0 z0 Try.underlying23 HI0.out HZ0.out cu rfl (by rw [HS0.out]; exact Hcs.out) (by rw [HS0.out]; decide) (by rw [HS0.out]; decide) ?_
    simp only [Act.put, List.setIfInBounds_toArray]
    have KA : Kept w5.heap.size w5.heap.size w5 (w5.drew.alloc (.cells cu 26)) := (Kept.refl _ _ _).drew.alloc (Nat.le_refl _) _
    have rA : (w5.drew.alloc (.cells cu 26)).heap[w5.drew.heap.size]? = some (.cells cu 26 (0, 0)) := heap_new _ _
    refine hK.out _ _ (KA) (fun hH => ?_)
    clear hK K
    refine wpAnyH_ready (rs := [2]) (by kernel_rfl) (by simp) ?_
    refine AllReadyH.cons rfl (fun K hK => ?_) AllReadyH.nil
    rw [if_pos (by rfl)]
    go_simp
    go_wp2_with (go_at_call 44; refine (HMK.out _).mono ?_; rintro e w6 ⟨rfl, k6⟩)
    have KB : Kept w5.heap.size w5.heap.size w5 w6 := KA.trans (k6.mono KA.size (fun i hi _ => Nat.ne_of_lt (Nat.lt_of_lt_of_le hi KA.size)))
    have rB := (k6.block _ (lt_of_block rA) (Nat.ne_of_lt (lt_of_block rA))).trans rA
    refine hK.out _ _ (KB) (fun hH => ?_)
    clear hK K
    refine wpAnyH_ready (rs := [3]) (by kernel_rfl) (by simp) ?_
    refine AllReadyH.cons rfl (fun K hK => ?_) AllReadyH.nil
    rw [if_pos (by rfl)]
    refine wp_build_one _ 23 26 rfl i0 z0 Try.underlying23 HI0.out HZ0.out cm rfl (by rw [HS0.out]; exact HMZ.out) (by rw [HS0.out]; decide) (by rw [HS0.out]; decide) ?_
    simp only [Act.put, List.setIfInBounds_toArray]
    have KC : Kept w5.heap.size w5.heap.size w5 (w6.alloc (.cells cm 26)) := KB.alloc KB.size _
    have rC : (w6.alloc (.cells cm 26)).heap[w5.drew.heap.size]? = some (.cells cu 26 (0, 0)) := by rw [Below.heap_alloc _ _ _ (lt_of_block rB)]; exact rB
    refine hK.out _ _ (KC) (fun hH => ?_)
    clear hK K
    refine wpAnyH_ready (rs := [6]) (by kernel_rfl) (by simp) ?_
    refine AllReadyH.cons rfl (fun K hK => ?_) AllReadyH.nil
    rw [if_pos (by rfl)]
    go_simp
    go_wp2_with (go_at_call 39; refine (HM1.out _ (w6.heap.size) (w5.drew.heap.size) (heap_new _ _) (rC)).mono ?_; rintro e w8 ⟨rfl, k8⟩)
    have J8 : Kept w5.heap.size w5.heap.size w5 w8 := KC.trans (k8.mono KC.size (fun i hi _ => Nat.ne_of_lt (Nat.lt_of_lt_of_le hi KC.size)))
    refine hK.out _ _ (J8) (fun hH => ?_)
    clear hK K
    refine wpAnyH_done (by kernel_rfl) ?_ _
    refine NoPanic.normal ?_
    have KA8 : Kept w8.heap.size w8.heap.size w8 (w8.alloc (.cells kc 26)) := (Kept.refl _ _ _).alloc (Nat.le_refl _) _
    have sA8 : (w8.alloc (.cells kc 26)).heap.size = w8.heap.size + 1 := by simp
    have JA : Kept w5.heap.size w5.heap.size w5 (w8.alloc (.cells kc 26)) := J8.alloc J8.size _
    have JB : Kept w5.heap.size w5.heap.size w5 ((w8.alloc (.cells kc 26)).alloc (.cells cu 26)) := JA.alloc JA.size _
    have hN2 := HM2.out ((w8.alloc (.cells kc 26)).alloc (.cells cu 26)) w8.heap.size (w8.heap.size + 1) (by rw [Below.heap_alloc _ _ _ (by omega)]; exact heap_new _ _) (by rw [← sA8]; exact heap_new _ _)
    have HN2 := Lib.hid hN2
    have HJA := Lib.hid JA
    have HJB := Lib.hid JB
    have HJ8 := Lib.hid J8
    clear KA8 sA8 hN2 JA JB J8 k8
    go_upto_region 3 with fail
    refine wp_region_lit ?_
    refine @BigFrame.wpList_want _ _ _ _ _ _ _ ?hwl3a ?_
    case hwl3a => kernel_rfl
    intro K hK
    go_simp
    refine hK _ _ ?_
    clear hK K
    refine wpList_load_row_g ?hwl3b 26 _ rfl (wa + 1) rfl 26 kc (0, 0) _ ((HLD.out w8 HJ8.out).2.1) Try.underlying26 rfl HKI.out ?_
    case hwl3b => kernel_rfl
    simp only [Act.put, List.setIfInBounds_toArray, List.set_cons_zero, List.set_cons_succ]
    refine wpList_build_one_g ?hwl3c _ 23 26 rfl i0 z0 Try.underlying23 HI0.out HZ0.out kc rfl (by rw [HS0.out]; exact HK32.out) (by rw [HS0.out]; decide) (by rw [HS0.out]; decide) ?_
    case hwl3c => kernel_rfl
    simp only [Act.put, List.setIfInBounds_toArray, List.set_cons_zero, List.set_cons_succ]
    refine wpList_load_row_g ?hwl3d 26 _ rfl (wm) rfl 26 cu (0, 0) _ ((HLD.out _ HJA.out).2.2) Try.underlying26 rfl HIU.out ?_
    case hwl3d => kernel_rfl
    simp only [Act.put, List.setIfInBounds_toArray, List.set_cons_zero, List.set_cons_succ]
    refine wpList_build_one_g ?hwl3e _ 23 26 rfl i0 z0 Try.underlying23 HI0.out HZ0.out cu rfl (by rw [HS0.out]; exact Hcs.out) (by rw [HS0.out]; decide) (by rw [HS0.out]; decide) ?_
    case hwl3e => kernel_rfl
    simp only [Act.put, List.setIfInBounds_toArray, List.set_cons_zero, List.set_cons_succ]
    refine @BigFrame.wpList_want _ _ _ _ _ _ _ ?hwl3f ?_
    case hwl3f => kernel_rfl
    intro K hK
    go_simp
    go_at_call 39; refine HN2.out.mono ?_; rintro e w9 ⟨rfl, k9⟩
    refine hK _ _ ?_
    clear hK K
    have J9 : Kept w5.heap.size w5.heap.size w5 w9 := HJB.out.trans (k9.mono HJB.out.size (fun i hi _ => Nat.ne_of_lt (Nat.lt_of_lt_of_le hi HJB.out.size)))
    have HJ9 := Lib.hid J9
    clear J9 k9
    go_upto_region 4 with fail
    refine wp_region_lit ?_
    refine @BigFrame.wpList_want _ _ _ _ _ _ _ ?hwl3g ?_
    case hwl3g => kernel_rfl
    intro K hK
    go_simp
    refine hK _ _ ?_
    clear hK K
    refine wpList_load_row_g ?hwl3h 26 _ rfl (wm) rfl 26 cu (0, 0) _ ((HLD.out w9 HJ9.out).2.2) Try.underlying26 rfl HIU.out ?_
    case hwl3h => kernel_rfl
    simp only [Act.put, List.setIfInBounds_toArray, List.set_cons_zero, List.set_cons_succ]
    refine @BigFrame.wpList_want _ _ _ _ _ _ _ ?hwl3i ?_
    case hwl3i => kernel_rfl
    intro K hK
    go_simp
    refine hK _ _ ?_
    clear hK K
    refine @BigFrame.wpList_want _ _ _ _ _ _ _ ?hwl3j ?_
    case hwl3j => kernel_rfl
    intro K hK
    go_simp
    refine hK _ _ ?_
    clear hK K
    refine @BigFrame.wpList_want _ _ _ _ _ _ _ ?hwl3k ?_
    case hwl3k => kernel_rfl
    intro K hK
    go_simp
    refine hK _ _ ?_
    clear hK K
    refine @BigFrame.wpList_want _ _ _ _ _ _ _ ?hwl3m ?_
    case hwl3m => kernel_rfl
    intro K hK
    go_simp
    go_at_call 13; refine (HSEAL.out _).mono ?_; rintro e w10 ⟨rfl, k10⟩
    refine hK _ _ ?_
    clear hK K
    refine @BigFrame.wpList_want _ _ _ _ _ _ _ ?hwl3n ?_
    case hwl3n => kernel_rfl
    intro K hK
    go_simp
    refine hK _ _ ?_
    clear hK K
    have J10 : Kept w5.heap.size w5.heap.size w5 w10 := HJ9.out.trans (k10.mono HJ9.out.size (fun i hi _ => Nat.ne_of_lt (Nat.lt_of_lt_of_le hi HJ9.out.size)))
    have cv := HCV.out w10 (wa + 1) (HLD.out w10 J10).2.1
    have HJ10 := Lib.hid J10
    clear J10 k10
    go_upto_region 5 with fail
    refine wp_region_lit ?_
    refine @BigFrame.wpList_want _ _ _ _ _ _ _ ?hwl3o ?_
    case hwl3o => kernel_rfl
    intro K hK
    go_simp
    refine hK _ _ ?_
    clear hK K
    refine @BigFrame.wpList_want _ _ _ _ _ _ _ ?hwl3p ?_
    case hwl3p => kernel_rfl
    intro K hK
    go_simp
    refine hK _ _ ?_
    clear hK K
    generalize hq : (sl == []) = qb
    have HEND := Lib.hid (HK1.out.trans ((HK5.out.trans (HJ10.out.mono HK5.out.size (fun i hi _ => by have := HK5.out.size; omega))).mono HK1.out.size (fun i hi _ => by have := HK1.out.size; omega)))
    cases qb with
    | true =>
      go_wp2
      all_goals go_ret
      all_goals first
        | exact ⟨rfl, HEND.out⟩
        | (exfalso; simp_all; done)
    | false =>
      go_wp2
      all_goals go_ret
      all_goals first
        | exact ⟨rfl, HEND.out⟩
        | (exfalso; simp_all; done)

end Go.Proofs.Ytohichignjjleaa

namespace Go.Proofs.Ytohichignjjleaa
open Go.RowKit Go.Lib

theorem yieldsIf_build_k {P : Program} {ops : Array Oper} {S : World → Prop} {op : Oper} {a : Act} (hw : Region.wanted op (yielded ops a.tmps) = true) (t : TypeId) (x : Operand) (ho : op.op = .build t #[(0, x)]) (v : Value) (hx : a.eval x = v) (r : Value)
    (hr : ∀ w, (Instr.build t #[(0, v)]).run P w = .ok r w) : YieldsIf P ops S op r a :=
  .inl ⟨hw, fun w _ => by
    unfold execOp
    simp only [ho, List.map_toArray, List.map_cons, List.map_nil, hx, Sem.run_bind, hr, Result.andThen_ok, Sem.run_pure]⟩

set_option maxRecDepth 100000 in
set_option maxHeartbeats 3200000 in
theorem prim_awake (w : World) : Calls Try.prog 6 #[] w fun e w' => e = .returned (.bool true) ∧ Kept w.heap.size w.heap.size w w' := by
  have hk : Hid ((dg 1).length = 32) := Lib.hid rfl
  have hk2 : Hid ((dg 2).length = 32) := Lib.hid rfl
  have hpl := Pm.pub_length (dg 1)
  have hpb := fun w => pub_nil (dg 1) hk w
  have hwr : ∀ w', Calls Try.prog 16 #[.pointer none, .agg (bcells (Pm.pub (dg 1))).toArray, .agg (bcells (dg 2)).toArray, .string ⟨#[120]⟩, .string ⟨#[97, 98]⟩, .slice none 0 0] w' fun e w'' => e = .returned (.string (str (Pm.wrapped (Pm.pub (dg 1)) (dg 2) [120] [97, 98]))) ∧ Kept w'.heap.size w'.heap.size w' w'' := fun w' => by
    have hl := Pm.sealed_length (Pm.kem (Pm.pub (dg 1)) (dg 2)) [120] [97, 98]
    have := wrap_of (Pm.pub (dg 1)) (dg 2) (Lib.hid hpl) hk2 ⟨#[120]⟩ [97, 98] (Pm.sealed (Pm.kem (Pm.pub (dg 1)) (dg 2)) [120] [97, 98]) (by rw [hl]; decide) w' (fun w2 => seal_nil (Pm.kem (Pm.pub (dg 1)) (dg 2)) (Lib.hid (Pm.kem_length _ _)) ⟨#[120]⟩ (Lib.hid (by decide)) [97, 98] (Lib.hid (by decide)) w2)
    rw [if_neg (by
      intro h
      rw [eq_of_beq h] at hl
      cases hl)] at this
    exact this
  have hun : ∀ w', Calls Try.prog 34 #[.agg (bcells (dg 1)).toArray, .string ⟨#[120]⟩, .string (str (Pm.wrapped (Pm.pub (dg 1)) (dg 2) [120] [97, 98]))] w' fun e w'' => e = .returned (.tuple #[.string ⟨#[97, 98]⟩, .int .i64 0]) ∧ Kept w'.heap.size w'.heap.size w' w'' := fun w' => by
    have := unwrap_calls (dg 1) hk ⟨#[120]⟩ (Lib.hid (by decide)) (Pm.wrapped (Pm.pub (dg 1)) (dg 2) [120] [97, 98]) (by rw [Pm.wrapped, List.length_append, Pm.sealed_length]; decide) w'
    rw [show (⟨#[120]⟩ : ByteArray).data.toList = [120] from rfl, Pm.unwrapped_wrapped (dg 1) (dg 2) [120] [97, 98] rfl (by decide)] at this
    exact this
  have hse := fun w => seal_nil (dg 1) hk ⟨#[]⟩ (Lib.hid (by decide)) [97, 98] (Lib.hid (by decide)) w
  have hsz : (str (Pm.sealed (dg 1) (⟨#[]⟩ : ByteArray).data.toList [97, 98])).size = 18 := by rw [str_size, Pm.sealed_length]; rfl
  have hve := fun w => verify_calls (dg 1) hk w
  have hsi := fun w => sign_calls (dg 1) hk ⟨#[116]⟩ (by decide) w
  have hch : ∀ w', Calls Try.prog 35 #[.agg (bcells (Pm.ver (dg 1))).toArray, .string ⟨#[116]⟩, .agg (bcells (Pm.sign (Pm.ver (dg 1)) (⟨#[116]⟩ : ByteArray).data.toList)).toArray] w' fun e w'' => e = .returned (.bool true) ∧ Kept w'.heap.size w'.heap.size w' w'' := fun w' => by
    have := check_calls (Pm.ver (dg 1)) (Pm.sign (Pm.ver (dg 1)) (⟨#[116]⟩ : ByteArray).data.toList) (Lib.hid (Pm.ver_length _)) (Lib.hid (Pm.sign_length _ _)) ⟨#[116]⟩ (by decide) w'
    rw [beq_self_eq_true] at this
    exact this
  have hi1 := keyInfo hk.out
  have hz1 := keySize hk.out
  have ha1 := bcells_all (dg 1)
  have hip := keyInfo hpl
  have hzp := keySize hpl
  have hap := bcells_all (Pm.pub (dg 1))
  have b1 := build_dg1
  have b2 := build_dg2
  generalize (bcells (Pm.sign (Pm.ver (dg 1)) (⟨#[116]⟩ : ByteArray).data.toList)).toArray = csg at hsi hch
  generalize (bcells (Pm.ver (dg 1))).toArray = cvr at hve hch
  generalize str (Pm.sealed (dg 1) (⟨#[]⟩ : ByteArray).data.toList [97, 98]) = ssl at hse hsz
  generalize str (Pm.wrapped (Pm.pub (dg 1)) (dg 2) [120] [97, 98]) = swr at hwr hun
  generalize (bcells (Pm.pub (dg 1))).toArray = cp at hpb hwr hip hzp hap
  generalize (bcells (dg 2)).toArray = d2 at b2 hwr
  generalize (bcells (dg 1)).toArray = d1 at b1 hpb hun hse hve hsi hi1 hz1 ha1
  have HPB := Lib.hid hpb
  have HWR := Lib.hid hwr
  have HUN := Lib.hid hun
  have HSE := Lib.hid hse
  have HVE := Lib.hid hve
  have HSI := Lib.hid hsi
  have HCH := Lib.hid hch
  have HI1 := Lib.hid hi1
  have HZ1 := Lib.hid hz1
  have HA1 := Lib.hid ha1
  have HIP := Lib.hid hip
  have HZP := Lib.hid hzp
  have HAP := Lib.hid hap
  have B1 := Lib.hid b1
  have B2 := Lib.hid b2
  have hsi18 : (ssl.size : Int) = 18 := by rw [hsz]; rfl
  clear hpb hwr hun hse hve hsi hch hi1 hz1 ha1 hip hzp hap b1 b2 hpl hsz hk hk2
  go_enter Try.func6, Try.ntmps6
  go_upto_region 1 with fail
  refine wp_region_lit ?_
  refine wpList_build_k rfl 26 _ rfl (.int .u8 1) rfl (B1.out _) ?_
  simp only [Act.put, List.setIfInBounds_toArray, List.set_cons_zero, List.set_cons_succ]
  refine wpList_alloc_k rfl 26 rfl (alloc_zero _) ?_
  simp only [Act.put, List.setIfInBounds_toArray, List.set_cons_zero, List.set_cons_succ]
  refine wpList_store_row rfl 26 _ _ rfl (w.heap.size) d1 rfl rfl 26 zeros32 (heap_new _ _) HI1.out HZ1.out HA1.out ?_
  simp only [Act.put]
  have k1 : Kept w.heap.size w.heap.size w (w.alloc (.cells zeros32 26)) := (Kept.refl _ _ _).alloc (Nat.le_refl _) _
  have K1 : Kept w.heap.size w.heap.size w ((w.alloc (.cells zeros32 26)).setRow w.heap.size d1) := Kept.ofBelow (below_setRow (k1.below (Nat.le_refl _) (Nat.le_refl _)) (Nat.le_refl _) d1) (Nat.le_refl _)
  have r1 := setRow_heap (w.alloc (.cells zeros32 26)) w.heap.size zeros32 d1 _ _ (heap_new _ _)
  generalize (w.alloc (.cells zeros32 26)).setRow w.heap.size d1 = w1 at K1 r1 ⊢
  obtain ⟨wa, hwa⟩ : ∃ wa, wa = w.heap.size := ⟨_, rfl⟩
  rw [← hwa] at r1 ⊢
  have R1 := Lib.hid r1
  have HK1 := Lib.hid K1
  clear k1 K1 r1 hwa
  go_upto_region 2 with fail
  refine wp_region_lit ?_
  refine wpList_load_row_g ?hwa0 26 _ rfl (wa) rfl 26 d1 (0, 0) _ (R1.out) Try.underlying26 rfl HI1.out ?_
  case hwa0 => kernel_rfl
  simp only [Act.put, List.setIfInBounds_toArray, List.set_cons_zero, List.set_cons_succ]
  refine @BigFrame.wpList_want _ _ _ _ _ _ _ ?hwa1 ?_
  case hwa1 => kernel_rfl
  intro K hK
  go_simp
  go_at_call 12; refine (HPB.out _).mono ?_; rintro e w3 ⟨rfl, k3⟩
  refine hK _ _ ?_
  clear hK K
  refine wpList_alloc_k rfl 26 rfl (alloc_zero _) ?_
  simp only [Act.put, List.setIfInBounds_toArray, List.set_cons_zero, List.set_cons_succ]
  refine wpList_store_row rfl 26 _ _ rfl (w3.heap.size) cp rfl rfl 26 zeros32 (heap_new _ _) HIP.out HZP.out HAP.out ?_
  simp only [Act.put]
  have K4 : Kept w1.heap.size w1.heap.size w1 (w3.alloc (.cells zeros32 26)) := k3.alloc k3.size _
  have K5 : Kept w1.heap.size w1.heap.size w1 ((w3.alloc (.cells zeros32 26)).setRow w3.heap.size cp) := Kept.ofBelow (below_setRow (K4.below (Nat.le_refl _) (Nat.le_refl _)) k3.size cp) (Nat.le_refl _)
  have r5 := setRow_heap (w3.alloc (.cells zeros32 26)) w3.heap.size zeros32 cp _ _ (heap_new _ _)
  have q5 := (K5.block _ (lt_of_block R1.out) (Nat.ne_of_lt (lt_of_block R1.out))).trans R1.out
  generalize (w3.alloc (.cells zeros32 26)).setRow w3.heap.size cp = w5 at K5 r5 q5 ⊢
  generalize w3.heap.size = wp at r5 ⊢
  have hld : ∀ w', Kept w5.heap.size w5.heap.size w5 w' → (loadVar 26 ⟨wa, 0, none⟩).run Try.prog w' = .ok (.agg d1) w' ∧ (loadVar 26 ⟨wp, 0, none⟩).run Try.prog w' = .ok (.agg cp) w' := fun w' kk =>
    ⟨run_loadVar_row w' wa 26 26 d1 (0, 0) _ ((kk.block _ (lt_of_block q5) (Nat.ne_of_lt (lt_of_block q5))).trans q5) Try.underlying26 rfl HI1.out, run_loadVar_row w' wp 26 26 cp (0, 0) _ ((kk.block _ (lt_of_block r5) (Nat.ne_of_lt (lt_of_block r5))).trans r5) Try.underlying26 rfl HIP.out⟩
  have HLD := Lib.hid hld
  have HK5 := Lib.hid (HK1.out.trans (K5.mono HK1.out.size (fun i hi _ => by have := HK1.out.size; omega)))
  clear hld r5 q5 K4 K5 k3
  go_upto_region 3 with fail
  refine wp_region_noPanic ?_
  refine wp_region_held_drew (S := fun w' => Kept w5.heap.size w5.heap.size w5 w') (by kernel_rfl) ((Kept.refl _ _ _).drew) (fun hH => ?_)
  refine wpAnyH_take_at (i := 0) 9 (.agg d1) rfl rfl (by kernel_rfl) (by kernel_rfl) (by kernel_rfl) (fun _ _ _ h => h) (yieldsIf_load_known (by rfl) 26 _ rfl (wa) (0) rfl (.agg d1) (fun w' hw' => (HLD.out w' hw').1)) hH ?_
  simp only [List.setIfInBounds_toArray, List.set_cons_zero, List.set_cons_succ]
  refine wpAnyH_take_at (i := 1) 10 (.agg cp) rfl rfl (by kernel_rfl) (by kernel_rfl) (by kernel_rfl) (fun _ _ _ h => h) (yieldsIf_load_known (by rfl) 26 _ rfl (wp) (0) rfl (.agg cp) (fun w' hw' => (HLD.out w' hw').2)) hH ?_
  simp only [List.setIfInBounds_toArray, List.set_cons_zero, List.set_cons_succ]
  refine wpAnyH_take_at (i := 2) 11 (.agg d2) rfl rfl (by kernel_rfl) (by kernel_rfl) (by kernel_rfl) (fun _ _ _ h => h) (yieldsIf_build_k (by rfl) 26 _ rfl (.int .u8 2) rfl (.agg d2) (fun w' => B2.out w')) hH ?_
  simp only [List.setIfInBounds_toArray, List.set_cons_zero, List.set_cons_succ]
  have KD : Kept w5.heap.size w5.heap.size w5 w5.drew := (Kept.refl _ _ _).drew
  refine wpAnyH_ready (rs := [3]) (by kernel_rfl) (by simp) ?_
  refine AllReadyH.cons rfl (fun K hK => ?_) AllReadyH.nil
  rw [if_pos (by rfl)]
  go_simp
  go_wp2_with (go_at_call 16; refine (HWR.out _).mono ?_; rintro e w6 ⟨rfl, kw6⟩)
  have Kw6 : Kept w5.heap.size w5.heap.size w5 w6 := KD.trans (kw6.mono KD.size (fun i hi _ => Nat.ne_of_lt (Nat.lt_of_lt_of_le hi KD.size)))
  refine hK.out _ _ (Kw6) (fun hH => ?_)
  clear hK K
  refine wpAnyH_ready (rs := [4]) (by kernel_rfl) (by simp) ?_
  refine AllReadyH.cons rfl (fun K hK => ?_) AllReadyH.nil
  rw [if_pos (by rfl)]
  go_simp
  go_wp2_with (go_at_call 34; refine (HUN.out _).mono ?_; rintro e w7 ⟨rfl, kw7⟩)
  have Kw7 : Kept w5.heap.size w5.heap.size w5 w7 := Kw6.trans (kw7.mono Kw6.size (fun i hi _ => Nat.ne_of_lt (Nat.lt_of_lt_of_le hi Kw6.size)))
  refine hK.out _ _ (Kw7) (fun hH => ?_)
  clear hK K
  refine wpAnyH_take_at (i := 5) 8 (.tuple #[.string ⟨#[97, 98]⟩, .int .i64 0]) rfl rfl (by kernel_rfl) (by kernel_rfl) (by kernel_rfl) (fun _ _ _ h => h) (.inl ⟨by rfl, fun w9 _ => by go_simp⟩) hH ?_
  simp only [List.setIfInBounds_toArray, List.set_cons_zero, List.set_cons_succ]
  refine wpAnyH_take_at (i := 6) 14 (.string ⟨#[97, 98]⟩) rfl rfl (by kernel_rfl) (by kernel_rfl) (by kernel_rfl) (fun _ _ _ h => h) (.inl ⟨by rfl, fun w9 _ => by go_simp⟩) hH ?_
  simp only [List.setIfInBounds_toArray, List.set_cons_zero, List.set_cons_succ]
  refine wpAnyH_take_at (i := 7) 15 (.int .i64 0) rfl rfl (by kernel_rfl) (by kernel_rfl) (by kernel_rfl) (fun _ _ _ h => h) (.inl ⟨by rfl, fun w9 _ => by go_simp⟩) hH ?_
  simp only [List.setIfInBounds_toArray, List.set_cons_zero, List.set_cons_succ]
  refine wpAnyH_take_at (i := 8) 3 (.string ⟨#[97, 98]⟩) rfl rfl (by kernel_rfl) (by kernel_rfl) (by kernel_rfl) (fun _ _ _ h => h) (.inl ⟨by rfl, fun w9 _ => by go_simp⟩) hH ?_
  simp only [List.setIfInBounds_toArray, List.set_cons_zero, List.set_cons_succ]
  refine wpAnyH_take_at (i := 9) 4 (.int .i64 0) rfl rfl (by kernel_rfl) (by kernel_rfl) (by kernel_rfl) (fun _ _ _ h => h) (.inl ⟨by rfl, fun w9 _ => by go_simp⟩) hH ?_
  simp only [List.setIfInBounds_toArray, List.set_cons_zero, List.set_cons_succ]
  refine wpAnyH_done (by kernel_rfl) ?_ _
  refine NoPanic.normal ?_
  clear KD Kw6 kw6 kw7
  go_upto_region 4 with fail
  refine wp_region_noPanic ?_
  refine wp_region_held_drew (S := fun w' => Kept w5.heap.size w5.heap.size w5 w') (by kernel_rfl) (Kw7.drew) (fun hH => ?_)
  refine wpAnyH_take_at (i := 0) 16 (.agg d1) rfl rfl (by kernel_rfl) (by kernel_rfl) (by kernel_rfl) (fun _ _ _ h => h) (yieldsIf_load_known (by rfl) 26 _ rfl (wa) (0) rfl (.agg d1) (fun w' hw' => (HLD.out w' hw').1)) hH ?_
  simp only [List.setIfInBounds_toArray, List.set_cons_zero, List.set_cons_succ]
  have KE : Kept w5.heap.size w5.heap.size w5 w7.drew := Kw7.drew
  refine wpAnyH_ready (rs := [1]) (by kernel_rfl) (by simp) ?_
  refine AllReadyH.cons rfl (fun K hK => ?_) AllReadyH.nil
  rw [if_pos (by rfl)]
  go_simp
  go_wp2_with (go_at_call 13; refine (HSE.out _).mono ?_; rintro e w8 ⟨rfl, kw8⟩)
  have Kw8 : Kept w5.heap.size w5.heap.size w5 w8 := KE.trans (kw8.mono KE.size (fun i hi _ => Nat.ne_of_lt (Nat.lt_of_lt_of_le hi KE.size)))
  refine hK.out _ _ (Kw8) (fun hH => ?_)
  clear hK K
  refine wpAnyH_take_at (i := 2) 18 (.int .i64 18) rfl rfl (by kernel_rfl) (by kernel_rfl) (by kernel_rfl) (fun _ _ _ h => h) (.inl ⟨by kernel_rfl, fun w9 _ => by go_simp⟩) hH ?_
  simp only [List.setIfInBounds_toArray, List.set_cons_zero, List.set_cons_succ]
  refine wpAnyH_take_at (i := 3) 19 (.bool true) rfl rfl (by kernel_rfl) (by kernel_rfl) (by kernel_rfl) (fun _ _ _ h => h) (.inl ⟨by kernel_rfl, fun w9 _ => by go_simp⟩) hH ?_
  simp only [List.setIfInBounds_toArray, List.set_cons_zero, List.set_cons_succ]
  refine wpAnyH_take_at (i := 4) 20 (.bool true) rfl rfl (by kernel_rfl) (by kernel_rfl) (by kernel_rfl) (fun _ _ _ h => h) (.inl ⟨by kernel_rfl, fun w9 _ => by go_simp⟩) hH ?_
  simp only [List.setIfInBounds_toArray, List.set_cons_zero, List.set_cons_succ]
  refine wpAnyH_take_at (i := 5) 21 (.string ⟨#[97, 98]⟩) rfl rfl (by kernel_rfl) (by kernel_rfl) (by kernel_rfl) (fun _ _ _ h => h) (.inl ⟨by kernel_rfl, fun w9 _ => by go_simp⟩) hH ?_
  simp only [List.setIfInBounds_toArray, List.set_cons_zero, List.set_cons_succ]
  refine wpAnyH_take_at (i := 6) 22 (.bool true) rfl rfl (by kernel_rfl) (by kernel_rfl) (by kernel_rfl) (fun _ _ _ h => h) (.inl ⟨by kernel_rfl, fun w9 _ => by go_simp⟩) hH ?_
  simp only [List.setIfInBounds_toArray, List.set_cons_zero, List.set_cons_succ]
  refine wpAnyH_take_at (i := 7) 23 (.bool true) rfl rfl (by kernel_rfl) (by kernel_rfl) (by kernel_rfl) (fun _ _ _ h => h) (.inl ⟨by kernel_rfl, fun w9 _ => by go_simp⟩) hH ?_
  simp only [List.setIfInBounds_toArray, List.set_cons_zero, List.set_cons_succ]
  refine wpAnyH_take_at (i := 8) 24 (.bool true) rfl rfl (by kernel_rfl) (by kernel_rfl) (by kernel_rfl) (fun _ _ _ h => h) (.inl ⟨by kernel_rfl, fun w9 _ => by go_simp⟩) hH ?_
  simp only [List.setIfInBounds_toArray, List.set_cons_zero, List.set_cons_succ]
  refine wpAnyH_take_at (i := 9) 25 (.int .i64 0) rfl rfl (by kernel_rfl) (by kernel_rfl) (by kernel_rfl) (fun _ _ _ h => h) (.inl ⟨by kernel_rfl, fun w9 _ => by go_simp⟩) hH ?_
  simp only [List.setIfInBounds_toArray, List.set_cons_zero, List.set_cons_succ]
  refine wpAnyH_take_at (i := 10) 26 (.bool true) rfl rfl (by kernel_rfl) (by kernel_rfl) (by kernel_rfl) (fun _ _ _ h => h) (.inl ⟨by kernel_rfl, fun w9 _ => by go_simp⟩) hH ?_
  simp only [List.setIfInBounds_toArray, List.set_cons_zero, List.set_cons_succ]
  refine wpAnyH_take_at (i := 11) 27 (.bool true) rfl rfl (by kernel_rfl) (by kernel_rfl) (by kernel_rfl) (fun _ _ _ h => h) (.inl ⟨by kernel_rfl, fun w9 _ => by go_simp⟩) hH ?_
  simp only [List.setIfInBounds_toArray, List.set_cons_zero, List.set_cons_succ]
  refine wpAnyH_take_at (i := 12) 28 (.bool true) rfl rfl (by kernel_rfl) (by kernel_rfl) (by kernel_rfl) (fun _ _ _ h => h) (.inl ⟨by kernel_rfl, fun w9 _ => by go_simp⟩) hH ?_
  simp only [List.setIfInBounds_toArray, List.set_cons_zero, List.set_cons_succ]
  refine wpAnyH_take_at (i := 13) 29 (.agg d1) rfl rfl (by kernel_rfl) (by kernel_rfl) (by kernel_rfl) (fun _ _ _ h => h) (yieldsIf_load_known (by kernel_rfl) 26 _ rfl (wa) (0) rfl (.agg d1) (fun w' hw' => (HLD.out w' hw').1)) hH ?_
  simp only [List.setIfInBounds_toArray, List.set_cons_zero, List.set_cons_succ]
  refine wpAnyH_take_at (i := 15) 31 (.agg d1) rfl rfl (by kernel_rfl) (by kernel_rfl) (by kernel_rfl) (fun _ _ _ h => h) (yieldsIf_load_known (by kernel_rfl) 26 _ rfl (wa) (0) rfl (.agg d1) (fun w' hw' => (HLD.out w' hw').1)) hH ?_
  simp only [List.setIfInBounds_toArray, List.set_cons_zero, List.set_cons_succ]
  refine wpAnyH_ready (rs := [14]) (by kernel_rfl) (by simp) ?_
  refine AllReadyH.cons rfl (fun K hK => ?_) AllReadyH.nil
  rw [if_pos (by rfl)]
  go_simp
  go_wp2_with (go_at_call 36; refine (HVE.out _).mono ?_; rintro e w9 ⟨rfl, kw9⟩)
  have Kw9 : Kept w5.heap.size w5.heap.size w5 w9 := Kw8.trans (kw9.mono Kw8.size (fun i hi _ => Nat.ne_of_lt (Nat.lt_of_lt_of_le hi Kw8.size)))
  refine hK.out _ _ (Kw9) (fun hH => ?_)
  clear hK K
  refine wpAnyH_ready (rs := [16]) (by kernel_rfl) (by simp) ?_
  refine AllReadyH.cons rfl (fun K hK => ?_) AllReadyH.nil
  rw [if_pos (by rfl)]
  go_simp
  go_wp2_with (go_at_call 37; refine (HSI.out _).mono ?_; rintro e w10 ⟨rfl, kw10⟩)
  have Kw10 : Kept w5.heap.size w5.heap.size w5 w10 := Kw9.trans (kw10.mono Kw9.size (fun i hi _ => Nat.ne_of_lt (Nat.lt_of_lt_of_le hi Kw9.size)))
  refine hK.out _ _ (Kw10) (fun hH => ?_)
  clear hK K
  refine wpAnyH_ready (rs := [17]) (by kernel_rfl) (by simp) ?_
  refine AllReadyH.cons rfl (fun K hK => ?_) AllReadyH.nil
  rw [if_pos (by rfl)]
  go_simp
  go_wp2_with (go_at_call 35; refine (HCH.out _).mono ?_; rintro e w11 ⟨rfl, kw11⟩)
  have Kw11 : Kept w5.heap.size w5.heap.size w5 w11 := Kw10.trans (kw11.mono Kw10.size (fun i hi _ => Nat.ne_of_lt (Nat.lt_of_lt_of_le hi Kw10.size)))
  refine hK.out _ _ (Kw11) (fun hH => ?_)
  clear hK K
  refine wpAnyH_take_at (i := 18) 34 (.bool true) rfl rfl (by kernel_rfl) (by kernel_rfl) (by kernel_rfl) (fun _ _ _ h => h) (.inl ⟨by kernel_rfl, fun w9 _ => by go_simp⟩) hH ?_
  simp only [List.setIfInBounds_toArray, List.set_cons_zero, List.set_cons_succ]
  refine wpAnyH_take_at (i := 19) 0 (.bool true) rfl rfl (by kernel_rfl) (by kernel_rfl) (by kernel_rfl) (fun _ _ _ h => h) (.inl ⟨by kernel_rfl, fun w9 _ => by go_simp⟩) hH ?_
  simp only [List.setIfInBounds_toArray, List.set_cons_zero]
  refine wpAnyH_done (by kernel_rfl) ?_ _
  refine NoPanic.normal ?_
  go_wp2
  go_ret
  exact ⟨rfl, HK5.out.trans (Kw11.mono HK5.out.size (fun i hi _ => by have := HK5.out.size; omega))⟩

end Go.Proofs.Ytohichignjjleaa
