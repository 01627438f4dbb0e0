/-
  The document's keys of keys.
-/
import Derived.Test.YtdhebdahfnilkaaMacRefCode
namespace Go.Proofs.Ytdhebdahfnilkaa
open Go.RowKit

set_option maxRecDepth 100000 in
set_option maxHeartbeats 1600000 in
theorem refderive_calls (k : List UInt8) (hk : Hid (k.length = 32)) (label context : ByteArray) (h1 : Hid (label.size ≤ 8000)) (h2 : Hid (context.size ≤ 8000)) (w : World) :
    Calls Try.prog 13 #[.agg (bcells k).toArray, .string label, .string context] w fun e w' => e = .returned (.agg (bcells (Mc.derive k label.data.toList context.data.toList)).toArray) ∧ Kept w.heap.size w.heap.size w w' := by
  generalize hkc : (bcells k).toArray = kc
  have Hkc := Lib.hid hkc
  clear hkc
  go_enter Try.func13, Try.ntmps13
  go_upto_region 1 with fail
  rw [zeros32_eq]
  have hP : ((w.alloc (.cells kc 24)).alloc (.cells zeros32 24)).heap[w.heap.size]? = some (.cells kc 24 (0, 0)) := heap_alloc2_old w _ _
  have hR : ((w.alloc (.cells kc 24)).alloc (.cells zeros32 24)).heap[w.heap.size + 1]? = some (.cells zeros32 24 (0, 0)) := heap_alloc2_last w _ _
  have k1 : Kept w.heap.size w.heap.size w ((w.alloc (.cells kc 24)).alloc (.cells zeros32 24)) := ((Kept.refl _ _ _).alloc (Nat.le_refl _) _).alloc (by simp) _
  have s1 : ((w.alloc (.cells kc 24)).alloc (.cells zeros32 24)).heap.size = w.heap.size + 2 := by simp
  generalize (w.alloc (.cells kc 24)).alloc (.cells zeros32 24) = w1 at hP hR k1 s1 ⊢
  obtain ⟨wa, hwa⟩ : ∃ wa, wa = w.heap.size := ⟨_, rfl⟩
  rw [← hwa] at hP hR k1 s1 ⊢
  have hcv : ∀ w', Kept w1.heap.size w1.heap.size w1 w' → (convert 38 9 (.slice (some ⟨wa, 0, none⟩) 32 32)).run Try.prog w' = .ok (.string (str k)) w' := fun w' kk =>
    conv_hash hk.out (by rw [Hkc.out]; exact (kk.block wa (by omega) (by omega)).trans hP)
  have hrow : ∀ w', Kept w1.heap.size w1.heap.size w1 w' → w'.heap[wa + 1]? = some (.cells zeros32 24 (0, 0)) := fun w' kk => (kk.block (wa + 1) (by omega) (by omega)).trans hR
  have hcode : ∀ w' : World, Calls Try.prog 11 #[.string (str k), .string (str (Mc.four label.size) ++ label ++ context)] w' fun e w'' => e = .returned (.agg (bcells (Mc.derive k label.data.toList context.data.toList)).toArray) ∧ Kept w'.heap.size w'.heap.size w' w'' := fun w' => by
    have hll : label.data.toList.length = label.size := by simp
    have hz : (str (Mc.four label.size) ++ label ++ context).size ≤ 19000 := by
      have e1 : (str (Mc.four label.size) ++ label ++ context).size = (str (Mc.four label.size) ++ label).size + context.size := ByteArray.size_append
      have e2 : (str (Mc.four label.size) ++ label).size = (str (Mc.four label.size)).size + label.size := ByteArray.size_append
      rw [e1, e2, str_size, Mc.four_length]
      have := h1.out
      have := h2.out
      omega
    have := refcode_calls (str k) (str (Mc.four label.size) ++ label ++ context) (Lib.hid (by rw [str_size, hk.out]; decide)) (Lib.hid hz) w'
    rw [str_data, ByteArray.data_append, ByteArray.data_append, Array.toList_append, Array.toList_append, str_data] at this
    rw [Mc.derive, hll]
    exact this
  have hcs : (bcells (Mc.derive k label.data.toList context.data.toList)).toArray.size = 32 := by rw [List.size_toArray, bcells_length, Mc.derive_length]
  have hall := bcells_all (Mc.derive k label.data.toList context.data.toList)
  generalize hcu : (bcells (Mc.derive k label.data.toList context.data.toList)).toArray = cu at hcode hcs hall
  have hfour := fun w => reffour_calls label.size (Lib.hid (by have := h1.out; omega)) w
  have hq1 : (str (Mc.four label.size)).size ≤ 100 := by rw [str_size, Mc.four_length]; decide
  have hq2 := h1.out
  have hq3 := h2.out
  have hst : ∀ w', w'.heap[wa + 1]? = some (.cells zeros32 24 (0, 0)) → (storeCells ⟨wa + 1, 0, none⟩ cu.toList).run Try.prog w' = .ok () (w'.setRow (wa + 1) cu) := fun w' h => store_over w' (wa + 1) 24 zeros32 cu h (by rw [hcs]; rfl) hall
  generalize str (Mc.four label.size) = s4 at hfour hcode hq1
  generalize str k = sk at hcv hcode
  have HCV := Lib.hid hcv
  have HROW := Lib.hid hrow
  have HCODE := Lib.hid hcode
  have HST := Lib.hid hst
  have Hcs := Lib.hid hcs
  have Hcu := Lib.hid hcu
  have H4 := Lib.hid hfour
  have HK1 := Lib.hid k1
  have HS1 := Lib.hid s1
  have HWA := Lib.hid hwa
  have cA := hcv w1.drew (Kept.refl _ _ _).drew
  clear hcv hrow hcode hst hcs hcu hfour hP hR k1 s1 hwa hall
  go_region_with (first
    | (go_at_call 23; refine (H4.out _).mono ?_; rintro e w7 ⟨rfl, k7⟩; have K7 : Kept w1.heap.size w1.heap.size w1 w7 := (Kept.refl _ _ _).drew.trans k7; have c7 := HCV.out w7 K7)
    | (go_at_call 11; refine (HCODE.out _).mono ?_; rintro e w8 ⟨rfl, k8⟩; have K8 : Kept w1.heap.size w1.heap.size w1 w8 := K7.trans (k8.mono K7.size (fun k hk _ => Nat.ne_of_lt (Nat.lt_of_lt_of_le hk K7.size))); have h8 := HST.out w8 (HROW.out w8 K8)))
  all_goals
    have t2 := setRow_heap w8 (wa + 1) zeros32 cu _ _ (HROW.out w8 K8)
    have t1 : Kept w.heap.size w.heap.size w (w8.setRow (wa + 1) cu) := by
      have e1 := HWA.out
      have e2 := HS1.out
      refine Kept.trans (w2 := w8) ?_ ⟨rfl, rfl, rfl, by simp [World.setRow], fun k hk _ => setRow_other w8 (wa + 1) k cu (by omega)⟩
      rw [← e1]
      exact HK1.out.trans (K8.mono (by omega) (fun k hk _ => by omega))
    have hcu := Hcs.out
    go_wp2_with fail
    refine bodyPost_ret (results_cell_row rfl _ _ (wa + 1) 24 cu (0, 0) _ rfl t2 Try.underlying24 rfl (by rw [macInfo24, hcu])) rfl ?_
    exact ⟨by rw [Hcu.out], t1⟩

set_option maxRecDepth 100000 in
set_option maxHeartbeats 1600000 in
theorem refmix_calls (a k : List UInt8) (ha : Hid (a.length = 32)) (hk : Hid (k.length = 32)) (w : World) :
    Calls Try.prog 15 #[.agg (bcells a).toArray, .agg (bcells k).toArray] w fun e w' => e = .returned (.agg (bcells (Mc.code a k)).toArray) ∧ Kept w.heap.size w.heap.size w w' := by
  generalize hac : (bcells a).toArray = ac
  have Hac := Lib.hid hac
  generalize hkc : (bcells k).toArray = kc
  have Hkc := Lib.hid hkc
  clear hac hkc
  go_enter Try.func15, Try.ntmps15
  go_upto_region 1 with fail
  rw [zeros32_eq]
  obtain ⟨w1, hw1⟩ : ∃ w1, w1 = ((w.alloc (.cells ac 24)).alloc (.cells kc 24)).alloc (.cells zeros32 24) := ⟨_, rfl⟩
  have hQ : w1.heap[w.heap.size]? = some (.cells ac 24 (0, 0)) := by rw [hw1, Below.heap_alloc _ _ _ (by simp; omega)]; exact heap_alloc2_old w _ _
  have hP : w1.heap[w.heap.size + 1]? = some (.cells kc 24 (0, 0)) := by rw [hw1, Below.heap_alloc _ _ _ (by simp)]; exact heap_alloc2_last w _ _
  have hR : w1.heap[w.heap.size + 2]? = some (.cells zeros32 24 (0, 0)) := by
    have := heap_new ((w.alloc (.cells ac 24)).alloc (.cells kc 24)) (.cells zeros32 24)
    rw [hw1]
    simpa using this
  have k1 : Kept w.heap.size w.heap.size w w1 := by rw [hw1]; exact (((Kept.refl _ _ _).alloc (Nat.le_refl _) _).alloc (by simp) _).alloc (by simp; omega) _
  have s1 : w1.heap.size = w.heap.size + 3 := by rw [hw1]; simp
  rw [← hw1]
  clear hw1
  obtain ⟨wa, hwa⟩ : ∃ wa, wa = w.heap.size := ⟨_, rfl⟩
  rw [← hwa] at hP hQ hR k1 s1 ⊢
  have hcva : ∀ w', Kept w1.heap.size w1.heap.size w1 w' → (convert 38 9 (.slice (some ⟨wa, 0, none⟩) 32 32)).run Try.prog w' = .ok (.string (str a)) w' := fun w' kk =>
    conv_hash ha.out (by rw [Hac.out]; exact (kk.block wa (by omega) (by omega)).trans hQ)
  have hcvk : ∀ w', Kept w1.heap.size w1.heap.size w1 w' → (convert 38 9 (.slice (some ⟨wa + 1, 0, none⟩) 32 32)).run Try.prog w' = .ok (.string (str k)) w' := fun w' kk =>
    conv_hash hk.out (by rw [Hkc.out]; exact (kk.block (wa + 1) (by omega) (by omega)).trans hP)
  have hrow : ∀ w', Kept w1.heap.size w1.heap.size w1 w' → w'.heap[wa + 1 + 1]? = some (.cells zeros32 24 (0, 0)) := fun w' kk => (kk.block (wa + 1 + 1) (by omega) (by omega)).trans hR
  have hcode : ∀ w' : World, Calls Try.prog 11 #[.string (str a), .string (str k)] w' fun e w'' => e = .returned (.agg (bcells (Mc.code a k)).toArray) ∧ Kept w'.heap.size w'.heap.size w' w'' := fun w' =>
    refcode_calls (str a) (str k) (Lib.hid (by rw [str_size, ha.out]; decide)) (Lib.hid (by rw [str_size, hk.out]; decide)) w'
  have hcs : (bcells (Mc.code a k)).toArray.size = 32 := by rw [List.size_toArray, bcells_length, Mc.code_length]
  have hall := bcells_all (Mc.code a k)
  generalize hcu : (bcells (Mc.code a k)).toArray = cu at hcode hcs hall
  have hst : ∀ w', w'.heap[wa + 1 + 1]? = some (.cells zeros32 24 (0, 0)) → (storeCells ⟨wa + 1 + 1, 0, none⟩ cu.toList).run Try.prog w' = .ok () (w'.setRow (wa + 1 + 1) cu) := fun w' h => store_over w' (wa + 1 + 1) 24 zeros32 cu h (by rw [hcs]; rfl) hall
  generalize str k = sk at hcvk hcode
  generalize str a = sa at hcva hcode
  have HROW := Lib.hid hrow
  have HCODE := Lib.hid hcode
  have HST := Lib.hid hst
  have Hcs := Lib.hid hcs
  have Hcu := Lib.hid hcu
  have HK1 := Lib.hid k1
  have HS1 := Lib.hid s1
  have HWA := Lib.hid hwa
  have KD : Kept w1.heap.size w1.heap.size w1 w1.drew := (Kept.refl _ _ _).drew
  have cA := hcva _ KD
  have cB := hcvk _ KD
  clear hcva hcvk hrow hcode hst hcs hcu hP hQ hR k1 s1 hwa hall
  go_region_with (go_at_call 11; refine (HCODE.out _).mono ?_; rintro e w8 ⟨rfl, k8⟩; have K8 : Kept w1.heap.size w1.heap.size w1 w8 := KD.trans k8; have h8 := HST.out w8 (HROW.out w8 K8))
  all_goals
    have t2 := setRow_heap w8 (wa + 1 + 1) zeros32 cu _ _ (HROW.out w8 K8)
    have t1 : Kept w.heap.size w.heap.size w (w8.setRow (wa + 1 + 1) cu) := by
      have e1 := HWA.out
      have e2 := HS1.out
      refine Kept.trans (w2 := w8) ?_ ⟨rfl, rfl, rfl, by simp [World.setRow], fun k hk _ => setRow_other w8 (wa + 1 + 1) k cu (by omega)⟩
      rw [← e1]
      exact HK1.out.trans (K8.mono (by omega) (fun k hk _ => by omega))
    have hcu := Hcs.out
    go_wp2_with fail
    refine bodyPost_ret (results_cell_row rfl _ _ (wa + 1 + 1) 24 cu (0, 0) _ rfl t2 Try.underlying24 rfl (by rw [macInfo24, hcu])) rfl ?_
    exact ⟨by rw [Hcu.out], t1⟩

end Go.Proofs.Ytdhebdahfnilkaa
