/-
  The document's own reader: a digest.
-/
import Derived.Test.YtdnnccnicaoniaaDoorWireRefMore

namespace Go.Proofs.YtdnnccnicaoniaaDoor
open Go.RowKit

theorem wireInfo29 : (Tryd.prog.info? 22).map (·.size) = some 32 := by kernel_rfl

/-- Thirty-two bytes, the first of them laid. -/
def laid32 (v : List UInt8) (j : Nat) : List UInt8 := v.take j ++ (List.replicate 32 (0 : UInt8)).drop j
theorem laid32_zero (v : List UInt8) : laid32 v 0 = List.replicate 32 0 := by simp [laid32]
theorem laid32_length (v : List UInt8) (j : Nat) (hj : j ≤ v.length) (h32 : j ≤ 32) : (laid32 v j).length = 32 := by
  simp [laid32]; omega
theorem laid32_all (v : List UInt8) (h : v.length = 32) : laid32 v 32 = v := by
  rw [laid32, List.take_of_length_le (by omega), List.drop_eq_nil_of_le (by simp), List.append_nil]
theorem laid32_set (v : List UInt8) (j : Nat) (hj : j < v.length) (h32 : j < 32) : (laid32 v j).set j v[j] = laid32 v (j + 1) := by
  unfold laid32
  have h1 : (v.take j).length = j := by rw [List.length_take]; omega
  rw [List.set_append_right _ _ (by omega), h1, Nat.sub_self, List.drop_eq_getElem_cons (by simpa using h32), List.set_cons_zero, List.take_succ_eq_append_getElem hj, List.append_assoc]
  rfl
theorem bcells_set (l : List UInt8) (j : Nat) (b : UInt8) : (bcells l).set j (.int .u8 b.toNat) = bcells (l.set j b) := by
  simp [bcells, List.map_set]

def HashFin (w : World) (c : Nat) (r : Wm.Got (List UInt8)) (e : Ending) (w' : World) : Prop := e = .returned (.agg (bcells r.val).toArray) ∧ Rf w' c r.left r.err ∧ Kept w.heap.size c w w'

/-- What Hash makes of what Raw answered. -/
theorem hash_raw (l : List UInt8) (e : Int) : gHash l e = ⟨laid32 (gRaw l e 32).val (gRaw l e 32).val.length, (gRaw l e 32).left, (gRaw l e 32).err⟩ ∧ ((gRaw l e 32).val.length ≤ 32) := by
  unfold gHash gRaw
  by_cases he : e = 0
  · rw [if_pos he, if_pos he]
    unfold Wm.rRaw
    by_cases hl : l.length < 32
    · rw [if_pos hl, if_pos hl]
      exact ⟨rfl, by decide⟩
    · rw [if_neg hl, if_neg hl]
      have h1 : (l.take 32).length = 32 := by rw [List.length_take]; omega
      refine ⟨?_, by show (l.take 32).length ≤ 32; omega⟩
      show _ = (⟨laid32 (l.take 32) (l.take 32).length, l.drop 32, 0⟩ : Wm.Got _)
      rw [h1, laid32_all _ h1]
  · rw [if_neg he, if_neg he]
    exact ⟨rfl, Nat.zero_le _⟩

set_option maxHeartbeats 1600000 in
theorem hashrd_all (c : Nat) (l : List UInt8) (e0 : Int) (w : World) (h : Rf w c l e0) :
    Calls Tryd.prog 37 #[.pointer (some ⟨c, 0, none⟩)] w fun e w' => HashFin w c (gHash l e0) e w' := by
  obtain ⟨hraw, hlen⟩ := hash_raw l e0
  rw [hraw]
  have hcall := fun (w' : World) (h' : Rf w' c l e0) => refraw_all c l e0 32 w' h'
  generalize gRaw l e0 32 = r at *
  have Hcall := Lib.hid hcall
  clear hraw hcall
  obtain ⟨v, hv⟩ : ∃ v, v = r.val := ⟨_, rfl⟩
  have hcw := h.lt
  go_enter Tryd.func37, Tryd.ntmps37
  go_wp2_with fail
  rw [zeros32_eq]
  have hA : ((w.alloc (.cells zeros32 22)).alloc (.cells zeros32 22)).heap[w.heap.size]? = some (.cells zeros32 22 (0, 0)) := heap_alloc2_old w _ _
  have hB : ((w.alloc (.cells zeros32 22)).alloc (.cells zeros32 22)).heap[w.heap.size + 1]? = some (.cells zeros32 22 (0, 0)) := heap_alloc2_new w _ _
  have hK : Kept w.heap.size w.heap.size w ((w.alloc (.cells zeros32 22)).alloc (.cells zeros32 22)) := ((Kept.refl _ _ _).alloc (Nat.le_refl _) _).alloc (by simp) _
  have hR := h.kept hK hcw (by omega)
  generalize (w.alloc (.cells zeros32 22)).alloc (.cells zeros32 22) = w2 at hA hB hK hR ⊢
  have hsz := lt_of_block hB
  refine (Hcall.out _ hR).mono ?_
  rintro e w3 ⟨rfl, h3, k3⟩
  rw [← hv]
  rw [← hv] at hlen
  have hA := (k3.block w.heap.size (by omega) (by omega)).trans hA
  have hB := (k3.block (w.heap.size + 1) (by omega) (by omega)).trans hB
  have hK := (hK.mono (base' := w.heap.size) (b' := c) (Nat.le_refl _) (fun k hk _ => by omega)).trans (k3.mono (by omega) (fun _ _ h => h))
  have hsv := str_size v
  have Hv := Lib.hid hv
  clear hv hR h
  have HA := Lib.hid hA
  have HB := Lib.hid hB
  clear hA hB
  have hz3 : w.heap.size + 1 < w3.heap.size := lt_of_block HB.out
  clear k3
  go_wp2_with fail
  go_loopw [5] (fun i w9 => ∃ j : Nat, j ≤ v.length ∧ i = .int .i64 j ∧ Hid (w9.heap[w.heap.size + 1]? = some (.cells (bcells (laid32 v j)).toArray 22 (0, 0))) ∧ Hid (w9.heap[w.heap.size]? = some (.cells zeros32 22 (0, 0))) ∧ Rf w9 c r.left r.err ∧ Kept w.heap.size c w w9) (fun i _ => v.length - (RowKit.intOf i).toNat)
  case atStart => exact ⟨0, by omega, rfl, Lib.hid (by rw [laid32_zero]; exact HB.out), HA, h3, hK⟩
  case round =>
    obtain ⟨j, hj, rfl, hB9, hA9, h9, k9⟩ := hrel
    by_cases hlt : j < v.length
    · have hjs : j < (str v).size := by omega
      have hll : (bcells (laid32 v j)).length = 32 := by rw [bcells_length, laid32_length v j hj (by omega)]
      have cj := cells_at hB9.out j (by omega)
      have fj := cells_free hB9.out j
      have hset := Lib.hid (cells_set hB9.out j (.int .u8 (v[j]).toNat))
      have hat := str_at v j hjs hlt
      have k10 := k9.set (b' := w.heap.size + 1) (.inr (by omega)) j (.int .u8 (v[j]).toNat)
      have h10 := h9.same (w' := wr.setCell ⟨w.heap.size + 1, j, none⟩ (.int .u8 (v[j]).toNat)) (setCell_other _ _ _ _ _ (by omega))
      have hA10 := Lib.hid ((setCell_other wr (w.heap.size + 1) j (.int .u8 (v[j]).toNat) w.heap.size (by omega)).trans hA9.out)
      rw [bcells_set, laid32_set v j hlt (by omega)] at hset
      go_wp2
      go_roundw
      case rel => exact ⟨j + 1, by omega, by go_num, hset, hA10, h10, k10⟩
      case measure => simp [RowKit.intOf]; omega
    · obtain rfl : j = v.length := by omega
      have hone := bcells_all (laid32 v v.length)
      have hsz2 : (bcells (laid32 v v.length)).toArray.size = 32 := by
        simp only [List.size_toArray, bcells_length]
        exact laid32_length v v.length (Nat.le_refl _) hlen
      have hzs := zeros32_size
      generalize hq : (bcells (laid32 v v.length)).toArray = q at *
      go_wp2_with (first | (with_reducible refine wpList_load_row rfl 22 _ rfl (w.heap.size + 1) rfl 22 q (0, 0) _ hB9.out Tryd.underlying22 rfl (by rw [wireInfo29, hsz2]) ?_) | (with_reducible refine wpList_store_row rfl 22 _ _ rfl w.heap.size q rfl rfl 22 _ hA9.out (by rw [wireInfo29, hsz2]) (by rw [hsz2, hzs]) hone ?_))
      have t2 : (wr.setRow w.heap.size q).heap[w.heap.size]? = some (.cells q 22 (0, 0)) := setRow_heap wr w.heap.size zeros32 q _ _ hA9.out
      have t1 : Kept w.heap.size c w (wr.setRow w.heap.size q) := k9.trans ⟨rfl, rfl, rfl, by simp [World.setRow], fun k hk _ => setRow_other wr w.heap.size k q (by omega)⟩
      have t3 : Rf (wr.setRow w.heap.size q) c r.left r.err := h9.same (setRow_other wr w.heap.size c q (by omega))
      refine bodyPost_ret (results_cell_row rfl _ _ w.heap.size 22 q (0, 0) _ rfl t2 Tryd.underlying22 rfl (by rw [wireInfo29, hsz2])) rfl ?_
      refine ⟨?_, t3, t1⟩
      rw [← hq, Hv.out]

end Go.Proofs.YtdnnccnicaoniaaDoor
