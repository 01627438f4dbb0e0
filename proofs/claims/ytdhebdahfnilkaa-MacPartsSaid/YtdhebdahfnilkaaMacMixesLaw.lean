/-
  The walk of the statement MacMixes: a key made of two is the document's.
-/
import Derived.Test.YtdhebdahfnilkaaMacAwake
import Derived.Test.YtdhebdahfnilkaaMacRefDerive
import Derived.Test.YtdhebdahfnilkaaQuietLoad
import Derived.Stop.BytesEq
namespace Go.Proofs.Ytdhebdahfnilkaa
open Go.RowKit

theorem macGuard25 : Try.prog.eqGuardType Try.prog.depth 25 = false := by kernel_rfl
theorem mac_equalIn (w : World) (xs : List UInt8) (hx : xs.length = 32) : (Op.equalIn 10000 25 (.agg (bcells xs).toArray) (.agg (bcells xs).toArray)).run Try.prog w = .ok true w := by
  have := run_equalIn_bytes (P := Try.prog) w 9998 25 5 32 Try.underlying25 Try.underlying5 (fun w => Try.sizeOf5 w) xs xs hx hx
  rw [beq_self_eq_true] at this
  exact this

set_option maxRecDepth 100000 in
set_option maxHeartbeats 1600000 in
theorem macmixes_walk (la lb : List UInt8) (hla : la.length = 32) (hlb : lb.length = 32) (w : World) : Calls Try.prog 8 #[.agg (bcells la).toArray, .agg (bcells lb).toArray] w fun e w' => e = .returned (.bool true) ∧ Kept w.heap.size w.heap.size w w' := by
  have hca : (bcells la).toArray.size = 32 := by rw [List.size_toArray, bcells_length, hla]
  have hcb : (bcells lb).toArray.size = 32 := by rw [List.size_toArray, bcells_length, hlb]
  have h1 := fun w => macmix_calls la lb (Lib.hid hla) (Lib.hid hlb) w
  have h2 := fun w => refmix_calls la lb (Lib.hid hla) (Lib.hid hlb) w
  have heq := fun w => mac_equalIn w (Mc.code la lb) (Mc.code_length _ _)
  have gd := macGuard25
  generalize (bcells (Mc.code la lb)).toArray = cu at h1 h2 heq
  generalize (bcells la).toArray = ca at hca h1 h2 ⊢
  generalize (bcells lb).toArray = cb at hcb h1 h2 ⊢
  have H1 := Lib.hid h1
  have H2 := Lib.hid h2
  clear h1 h2
  go_enter Try.func8, Try.ntmps8
  go_upto_region 1 with fail
  have hA : ((w.alloc (.cells ca 25)).alloc (.cells cb 25)).heap[w.heap.size]? = some (.cells ca 25 (0, 0)) := heap_alloc2_old w _ _
  have hB : ((w.alloc (.cells ca 25)).alloc (.cells cb 25)).heap[w.heap.size + 1]? = some (.cells cb 25 (0, 0)) := heap_alloc2_last w _ _
  have k1 : Kept w.heap.size w.heap.size w ((w.alloc (.cells ca 25)).alloc (.cells cb 25)) := ((Kept.refl _ _ _).alloc (Nat.le_refl _) _).alloc (by simp) _
  generalize (w.alloc (.cells ca 25)).alloc (.cells cb 25) = w1 at hA hB k1 ⊢
  have hra := fun w' => range_regrown (w := w1) hA w'
  have hrb := fun w' => range_regrown (w := w1) hB w'
  have hia : (Try.prog.info? 25).map (·.size) = some ca.size := by rw [shaInfo30, hca]
  have hib : (Try.prog.info? 25).map (·.size) = some cb.size := by rw [shaInfo30, hcb]
  have HRA := Lib.hid hra
  have HRB := Lib.hid hrb
  have HIA := Lib.hid hia
  have HIB := Lib.hid hib
  have K1 := Lib.hid k1
  clear hra hrb hia hib k1 hA hB
  refine wp_region_quiet_below (by kernel_rfl) (by kernel_rfl) ?_
  repeat
    first
      | (refine wpQuiet_load_row 25 _ rfl w.heap.size rfl ca _ HRA.out Try.underlying25 rfl HIA.out rfl ?_; go_simp)
      | (refine wpQuiet_load_row 25 _ rfl (w.heap.size + 1) rfl cb _ HRB.out Try.underlying25 rfl HIB.out rfl ?_; go_simp)
      | (quiet_step (first | (go_at_call 9; exact kept_regrown mac_awake) | (go_at_call 14; exact kept_regrown H1.out) | (go_at_call 15; exact kept_regrown H2.out)))
  refine wpQuiet_nil ?_
  intro p
  have k2 := regrown_kept (w := w1) ⟨p, rfl⟩
  generalize Go.Sort.grow (redrawn w1 p.d) p.os = w2 at k2 ⊢
  go_wp2
  go_ret
  exact ⟨rfl, K1.out.trans (k2.mono K1.out.size (fun k hk _ => by have := K1.out.size; omega))⟩

end Go.Proofs.Ytdhebdahfnilkaa
