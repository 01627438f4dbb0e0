/-
  What the landed digest starts with: eight words, the rounds' words.
-/
import Derived.Test.YtdhebdahfnilkaaShaDig
import Derived.Deep.Cut
import Derived.Laws.Tables
namespace Go.Proofs.Ytdhebdahfnilkaa
open Go.RowKit

theorem firstState_calls (w : World) : Calls Try.prog 27 #[] w fun e w' => e = .returned (.agg (wcells Sm.init.list).toArray) ∧ Kept w.heap.size w.heap.size w w' := by
  go_enter Try.func27, Try.ntmps27
  go_wp2_with fail
  rw [stcells_init]
  have hV : (w.alloc (.cells (wcells Sm.init.list).toArray 53)).heap[w.heap.size]? = some (.cells (wcells Sm.init.list).toArray 53 (0, 0)) := heap_new _ _
  refine bodyPost_ret (results_cell_row rfl _ _ w.heap.size 53 _ (0, 0) _ rfl hV Try.underlying53 rfl (by rw [shaInfo44]; rfl)) rfl ?_
  exact ⟨rfl, (Kept.refl _ _ _).alloc (Nat.le_refl _) _⟩

set_option maxRecDepth 100000 in
set_option maxHeartbeats 1600000 in
theorem roundWords_calls (w : World) : Calls Try.prog 28 #[] w fun e w' => e = .returned (.agg (wcells Sm.K).toArray) ∧ Kept w.heap.size w.heap.size w w' := by
  go_enter Try.func28, Try.ntmps28
  go_upto_region 1 with fail
  rw [zeros64_eq]
  have hA : (w.alloc (.cells zeros64 51)).heap[w.heap.size]? = some (.cells zeros64 51 (0, 0)) := heap_new _ _
  have k1 : Kept w.heap.size w.heap.size w (w.alloc (.cells zeros64 51)) := (Kept.refl _ _ _).alloc (Nat.le_refl _) _
  generalize w.alloc (.cells zeros64 51) = w1 at hA k1 ⊢
  refine wp_region_lit ?_
  refine wpList_build rfl _ _ rfl (by kernel_rfl) ?_
  generalize hk : Option.getD (Program.built _ _ _) _ = kc
  have hkc : kc = (wcells Sm.K).toArray := hk.symm.trans (by kernel_rfl)
  clear hk
  have hksz : kc.size = 64 := by rw [hkc]; rfl
  have hkall : kc.all (·.oneCell') = true := by rw [hkc]; exact wcells_all _
  have Hkc := Lib.hid hkc
  have hz64 : zeros64.size = 64 := rfl
  clear hkc
  go_wp2_with (with_reducible refine wpList_store_row rfl 51 _ _ rfl w.heap.size kc rfl rfl 51 _ hA (by rw [shaInfo40, hksz]) (hz64.trans hksz.symm) hkall ?_)
  have t2 : (w1.setRow w.heap.size kc).heap[w.heap.size]? = some (.cells kc 51 (0, 0)) := setRow_heap w1 w.heap.size _ kc _ _ hA
  refine bodyPost_ret (results_cell_row rfl _ _ w.heap.size 51 kc (0, 0) _ rfl t2 Try.underlying51 rfl (by rw [shaInfo40, hksz])) rfl ?_
  refine ⟨by rw [Hkc.out], k1.trans ⟨rfl, rfl, rfl, by simp [World.setRow], fun k hk _ => setRow_other w1 w.heap.size k kc (by omega)⟩⟩

end Go.Proofs.Ytdhebdahfnilkaa
