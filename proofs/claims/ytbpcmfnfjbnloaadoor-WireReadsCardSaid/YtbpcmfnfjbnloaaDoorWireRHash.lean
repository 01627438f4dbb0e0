/-
  The reader's call Hash.
-/
import Derived.Test.YtbpcmfnfjbnloaaDoorWireRText
namespace Go.Proofs.YtbpcmfnfjbnloaaDoor
open Go.RowKit

theorem wireInfo30 : (Tryd.prog.info? 30).map (·.size) = some 32 := by kernel_rfl
theorem wireSize5 : (Tryd.prog.info? 5).map (·.size) = some 1 := by kernel_rfl

/-- Thirty-two zeros. -/
def zeros32 : Array Value := (bcells (List.replicate 32 0)).toArray
theorem zeros32_eq : #[Value.int IntKind.u8 0, Value.int IntKind.u8 0, Value.int IntKind.u8 0, Value.int IntKind.u8 0, Value.int IntKind.u8 0, Value.int IntKind.u8 0, Value.int IntKind.u8 0, Value.int IntKind.u8 0, Value.int IntKind.u8 0, Value.int IntKind.u8 0, Value.int IntKind.u8 0, Value.int IntKind.u8 0, Value.int IntKind.u8 0, Value.int IntKind.u8 0, Value.int IntKind.u8 0, Value.int IntKind.u8 0, Value.int IntKind.u8 0, Value.int IntKind.u8 0, Value.int IntKind.u8 0, Value.int IntKind.u8 0, Value.int IntKind.u8 0, Value.int IntKind.u8 0, Value.int IntKind.u8 0, Value.int IntKind.u8 0, Value.int IntKind.u8 0, Value.int IntKind.u8 0, Value.int IntKind.u8 0, Value.int IntKind.u8 0, Value.int IntKind.u8 0, Value.int IntKind.u8 0, Value.int IntKind.u8 0, Value.int IntKind.u8 0] = zeros32 := rfl
theorem zeros32_size : zeros32.size = 32 := rfl
theorem bcells_all (l : List UInt8) : (bcells l).toArray.all (·.oneCell') = true := by
  rw [Array.all_eq_true_iff_forall_mem]
  intro v hv
  exact bcells_one l v (by simpa using hv)
theorem zeros32_all : zeros32.all (·.oneCell') = true := bcells_all _

theorem hash_tail (w w2 : World) (b : Nat) (z : Array Value) (hk : Kept w.heap.size b w w2) (hA : w2.heap[w.heap.size]? = some (.cells z 30 (0, 0))) (c : Array Value) :
    Kept w.heap.size b w (w2.setRow w.heap.size c) ∧ (w2.setRow w.heap.size c).heap[w.heap.size]? = some (.cells c 30 (0, 0)) :=
  ⟨hk.trans ⟨rfl, rfl, rfl, by simp [World.setRow], fun k hk _ => setRow_other w2 w.heap.size k c (by omega)⟩, setRow_heap w2 w.heap.size z c _ _ hA⟩

theorem rhash_failed (p : Value) (x : Int) (w : World) (h : ∀ w', Kept w.heap.size w.heap.size w w' → Failed w' p x) : Calls Tryd.prog 21 #[p] w fun e w' => e = .returned (.agg zeros32) ∧ Kept w.heap.size w.heap.size w w' := by
  go_enter Tryd.func21, Tryd.ntmps21
  go_wp2_with fail
  rw [zeros32_eq]
  have hs := zeros32_size
  have h1 := zeros32_all
  have hA : ((w.alloc (.cells zeros32 30)).alloc (.cells zeros32 30)).heap[w.heap.size]? = some (.cells zeros32 30 (0, 0)) := heap_alloc2_old w _ _
  have hB : ((w.alloc (.cells zeros32 30)).alloc (.cells zeros32 30)).heap[w.heap.size + 1]? = some (.cells zeros32 30 (0, 0)) := heap_alloc2_new w _ _
  have hK : Kept w.heap.size w.heap.size w ((w.alloc (.cells zeros32 30)).alloc (.cells zeros32 30)) := ((Kept.refl _ _ _).alloc (Nat.le_refl _) _).alloc (by simp) _
  generalize hz : zeros32 = z at hs h1 hA hB hK ⊢
  have Hz := Lib.hid hz
  clear hz
  generalize (w.alloc (.cells z 30)).alloc (.cells z 30) = w2 at hA hB hK ⊢
  refine (take_failed p x 32 _ (h _ hK)).mono ?_
  rintro e w' ⟨rfl, rfl⟩
  go_wp2_with (first | (with_reducible refine wpList_copy_nothing rfl _ _ 56 56 rfl 5 Tryd.underlying56 wireSize5 _ _ _ _ _ _ rfl rfl rfl ?_) | (with_reducible refine wpList_load_row rfl 30 _ rfl (w.heap.size + 1) rfl 30 z (0, 0) _ hB Tryd.underlying30 rfl (by rw [wireInfo30, hs]) ?_) | (with_reducible refine wpList_store_row rfl 30 _ _ rfl w.heap.size z rfl rfl 30 _ hA (by rw [wireInfo30, hs]) rfl h1 ?_))
  obtain ⟨t1, t2⟩ := hash_tail w w2 _ z hK hA z
  refine bodyPost_ret (results_cell_row rfl _ _ w.heap.size 30 z (0, 0) _ rfl t2 Tryd.underlying30 rfl (by rw [wireInfo30, hs])) rfl ?_
  rw [Hz.out]
  exact ⟨rfl, t1⟩
theorem rhash_short (top b : Nat) (l : List UInt8) (w : World) (h : Rd w top b l 0) (hl : l.length < 32) : Calls Tryd.prog 21 #[.pointer (some ⟨b, 0, none⟩)] w fun e w' => e = .returned (.agg zeros32) ∧ Rd w' top b [] 2 ∧ Kept w.heap.size b w w' := by
  go_enter Tryd.func21, Tryd.ntmps21
  go_wp2_with fail
  rw [zeros32_eq]
  have hs := zeros32_size
  have h1 := zeros32_all
  have hA : ((w.alloc (.cells zeros32 30)).alloc (.cells zeros32 30)).heap[w.heap.size]? = some (.cells zeros32 30 (0, 0)) := heap_alloc2_old w _ _
  have hB : ((w.alloc (.cells zeros32 30)).alloc (.cells zeros32 30)).heap[w.heap.size + 1]? = some (.cells zeros32 30 (0, 0)) := heap_alloc2_new w _ _
  have hK : Kept w.heap.size w.heap.size w ((w.alloc (.cells zeros32 30)).alloc (.cells zeros32 30)) := ((Kept.refl _ _ _).alloc (Nat.le_refl _) _).alloc (by simp) _
  generalize hz : zeros32 = z at hs h1 hA hB hK ⊢
  have Hz := Lib.hid hz
  clear hz
  generalize (w.alloc (.cells z 30)).alloc (.cells z 30) = w2 at hA hB hK ⊢
  have hlt := h.lt
  have hle := h.le
  have hR : Rd w2 top b l 0 := h.kept hK hle hle
  have hsz := lt_of_block hB
  refine (take_short top b l 32 _ hR hl).mono ?_
  rintro e w3 ⟨rfl, h3, k3⟩
  have hA := (k3.block w.heap.size (by omega) (by omega)).trans hA
  have hB := (k3.block (w.heap.size + 1) (by omega) (by omega)).trans hB
  have hK := (hK.mono (base' := w.heap.size) (b' := b) (Nat.le_refl _) (fun k hk _ => by omega)).trans (k3.mono (by omega) (fun _ _ h => h))
  go_wp2_with (first | (with_reducible refine wpList_copy_nothing rfl _ _ 56 56 rfl 5 Tryd.underlying56 wireSize5 _ _ _ _ _ _ rfl rfl rfl ?_) | (with_reducible refine wpList_load_row rfl 30 _ rfl (w.heap.size + 1) rfl 30 z (0, 0) _ hB Tryd.underlying30 rfl (by rw [wireInfo30, hs]) ?_) | (with_reducible refine wpList_store_row rfl 30 _ _ rfl w.heap.size z rfl rfl 30 _ hA (by rw [wireInfo30, hs]) rfl h1 ?_))
  obtain ⟨t1, t2⟩ := hash_tail w w3 _ z hK hA z
  refine bodyPost_ret (results_cell_row rfl _ _ w.heap.size 30 z (0, 0) _ rfl t2 Tryd.underlying30 rfl (by rw [wireInfo30, hs])) rfl ?_
  have t3 : Kept w3.heap.size w.heap.size w3 (w3.setRow w.heap.size z) := ⟨rfl, rfl, rfl, by simp [World.setRow], fun k _ hk => setRow_other w3 w.heap.size k z hk⟩
  have hz3 := k3.size
  rw [Hz.out]
  exact ⟨rfl, h3.kept t3 (Nat.le_trans hle (by omega)) (by omega), t1⟩

theorem splice_all (z cs : List Value) (h : z.length = cs.length) : splice z 0 cs = cs := by
  simp [splice, ← h]

theorem rhash_ok (top b : Nat) (l : List UInt8) (w : World) (h : Rd w top b l 0) (hl : 32 ≤ l.length) : Calls Tryd.prog 21 #[.pointer (some ⟨b, 0, none⟩)] w fun e w' => e = .returned (.agg (bcells (l.take 32)).toArray) ∧ Rd w' top b (l.drop 32) 0 ∧ Kept w.heap.size b w w' := by
  go_enter Tryd.func21, Tryd.ntmps21
  go_wp2_with fail
  rw [zeros32_eq]
  have hs := zeros32_size
  have hA : ((w.alloc (.cells zeros32 30)).alloc (.cells zeros32 30)).heap[w.heap.size]? = some (.cells zeros32 30 (0, 0)) := heap_alloc2_old w _ _
  have hB : ((w.alloc (.cells zeros32 30)).alloc (.cells zeros32 30)).heap[w.heap.size + 1]? = some (.cells zeros32 30 (0, 0)) := heap_alloc2_new w _ _
  have hK : Kept w.heap.size w.heap.size w ((w.alloc (.cells zeros32 30)).alloc (.cells zeros32 30)) := ((Kept.refl _ _ _).alloc (Nat.le_refl _) _).alloc (by simp) _
  generalize hz : zeros32 = z at hs hA hB hK ⊢
  clear hz
  generalize (w.alloc (.cells z 30)).alloc (.cells z 30) = w2 at hA hB hK ⊢
  have hlt := h.lt
  have hle := h.le
  have hR : Rd w2 top b l 0 := h.kept hK hle hle
  have hsz := lt_of_block hB
  refine (take_ok top b l 32 _ hR hl).mono ?_
  rintro e w3 ⟨ao, c, rfl, hsh, h3, k3⟩
  have hA := (k3.block w.heap.size (by omega) (by omega)).trans hA
  have hB := (k3.block (w.heap.size + 1) (by omega) (by omega)).trans hB
  have hK := (hK.mono (base' := w.heap.size) (b' := b) (Nat.le_refl _) (fun k hk _ => by omega)).trans (k3.mono (by omega) (fun _ _ h => h))
  have hl32 : (l.take 32).length = 32 := by rw [List.length_take]; omega
  obtain ⟨g, o, rfl, _, _, hcell⟩ := hsh (by omega)
  have hsrc : ∀ j v, (bcells (l.take 32))[j]? = some v → w3.cell? (Addr.add ⟨g, o, none⟩ j) = some v := fun j v hv => by
    have hj : j < (l.take 32).length := by
      rcases Nat.lt_or_ge j (l.take 32).length with h' | h'
      · exact h'
      · rw [List.getElem?_eq_none (by rw [bcells_length]; exact h')] at hv; cases hv
    rw [bcells_get _ _ hj] at hv
    cases hv
    rw [Addr.add_lit]
    exact hcell j hj
  clear hsh hcell
  have hcs : (bcells (l.take 32)).length = 32 := by rw [bcells_length, hl32]
  have hone := bcells_one (l.take 32)
  have hall := bcells_all (l.take 32)
  generalize hq : bcells (l.take 32) = cs at hsrc hcs hone hall
  have Hq := Lib.hid hq
  clear hq
  have hzl : z = z.toList.toArray := by simp
  rw [hzl] at hB
  clear hzl
  go_wp2_with (with_reducible refine wpList_copy_splice rfl _ _ 56 56 rfl 5 Tryd.underlying56 wireSize5 _ _ _ _ _ _ rfl rfl (w.heap.size + 1) 0 z.toList 30 hB cs ?c1 (fun _ => ⟨rfl, ⟨g, o, none⟩, rfl, hsrc⟩) ?c2 hone (w.heap.size + 1) w3 (Below.refl _ _) (Nat.le_refl _) ?_)
  case c1 => exact hcs
  case c2 =>
    have e1 : z.toList.length = 32 := by rw [Array.length_toList]; exact hs
    have e2 : cs.toArray.size = 32 := by simpa using hcs
    omega
  intro w4 Hrow hbel
  have hB4 := Hrow.out
  rw [splice_all z.toList cs (by rw [Array.length_toList, hs, hcs])] at hB4
  have hA4 := (hbel.block w.heap.size (by omega)).trans hA
  have k4 : Kept (w.heap.size + 1) (w.heap.size + 1) w3 w4 := Kept.ofBelow hbel (Nat.le_refl _)
  have h4 := h3.kept k4 (by omega) (by omega)
  have hK4 := hK.trans (k4.mono (base' := w.heap.size) (b' := b) (by omega) (fun k hk _ => by omega))
  have hsc : cs.toArray.size = 32 := by simpa using hcs
  clear Hrow hbel hA hB hK
  go_wp2_with (first | (with_reducible refine wpList_load_row rfl 30 _ rfl (w.heap.size + 1) rfl 30 cs.toArray (0, 0) _ hB4 Tryd.underlying30 rfl (by rw [wireInfo30, hsc]) ?_) | (with_reducible refine wpList_store_row rfl 30 _ _ rfl w.heap.size cs.toArray rfl rfl 30 _ hA4 (by rw [wireInfo30, hsc]) (by rw [hs, hsc]) hall ?_))
  obtain ⟨t1, t2⟩ := hash_tail w w4 _ z hK4 hA4 cs.toArray
  refine bodyPost_ret (results_cell_row rfl _ _ w.heap.size 30 cs.toArray (0, 0) _ rfl t2 Tryd.underlying30 rfl (by rw [wireInfo30, hsc])) rfl ?_
  have t3 : Kept w4.heap.size w.heap.size w4 (w4.setRow w.heap.size cs.toArray) := ⟨rfl, rfl, rfl, by simp [World.setRow], fun k _ hk => setRow_other w4 w.heap.size k _ hk⟩
  have hz3 := k3.size
  have hz4 := k4.size
  rw [Hq.out]
  exact ⟨rfl, h4.kept t3 (by omega) (by omega), t1⟩

end Go.Proofs.YtbpcmfnfjbnloaaDoor
