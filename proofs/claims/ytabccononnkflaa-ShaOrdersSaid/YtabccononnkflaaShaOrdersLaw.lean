/-
  The walk of the statement ShaOrders: digests stand in one order.
-/
import Derived.Test.YtabccononnkflaaShaAwake
import Derived.Test.YtabccononnkflaaShaCmpF
import Derived.Test.YtabccononnkflaaQuietLoad
import Derived.Stop.BytesEq
import Derived.Deep.Cut
namespace Go.Proofs.Ytabccononnkflaa
open Go.RowKit Go.Lib

theorem shaGuard25 : Try.prog.eqGuardType Try.prog.depth 25 = false := by kernel_rfl

theorem sha_equalIn (w : World) (xs ys : List UInt8) (hx : xs.length = 32) (hy : ys.length = 32) : (Op.equalIn 10000 25 (.agg (bcells xs).toArray) (.agg (bcells ys).toArray)).run Try.prog w = .ok (xs == ys) w :=
  run_equalIn_bytes w 9998 25 5 32 Try.underlying25 Try.underlying5 (fun w => Try.sizeOf5 w) xs ys hx hy
theorem alloc3 (w : World) (o1 o2 o3 : Obj) : (((w.alloc o1).alloc o2).alloc o3).heap[w.heap.size]? = some o1 ∧ (((w.alloc o1).alloc o2).alloc o3).heap[w.heap.size + 1]? = some o2 ∧ (((w.alloc o1).alloc o2).alloc o3).heap[w.heap.size + 2]? = some o3 ∧ (((w.alloc o1).alloc o2).alloc o3).heap.size = w.heap.size + 3 := by
  have s1 : (w.alloc o1).heap.size = w.heap.size + 1 := by simp
  have s2 : ((w.alloc o1).alloc o2).heap.size = w.heap.size + 2 := by simp
  refine ⟨?_, ?_, ?_, by simp⟩
  · rw [Below.heap_alloc _ _ _ (by omega), heap_alloc2_old]
  · rw [Below.heap_alloc _ _ _ (by omega), heap_alloc2_last]
  · rw [show w.heap.size + 2 = ((w.alloc o1).alloc o2).heap.size from s2.symm]
    exact heap_new _ _

set_option maxRecDepth 100000 in
set_option maxHeartbeats 3200000 in
theorem shaorders_walk (la lb lc : List UInt8) (hla : la.length = 32) (hlb : lb.length = 32) (hlc : lc.length = 32) (w : World) :
    Calls Try.prog 5 #[.agg (bcells la).toArray, .agg (bcells lb).toArray, .agg (bcells lc).toArray] w fun e w' => e = .returned (.bool true) ∧ Kept w.heap.size w.heap.size w w' := by
  have hab := fun w => cmp_calls la lb hla hlb w
  have hba := fun w => cmp_calls lb la hlb hla w
  have hbc := fun w => cmp_calls lb lc hlb hlc w
  have hac := fun w => cmp_calls la lc hla hlc w
  have hless := fun w => less_calls la lb hla hlb w
  have htr := cb_trans la lb lc
  have hrg := cb_range la lb
  have hz := cb_zero la lb
  rw [cb_anti lb la] at hba
  have hsa : (bcells la).toArray.size = 32 := by rw [List.size_toArray, bcells_length, hla]
  have hsb : (bcells lb).toArray.size = 32 := by rw [List.size_toArray, bcells_length, hlb]
  have hsc : (bcells lc).toArray.size = 32 := by rw [List.size_toArray, bcells_length, hlc]
  have heq := fun w => sha_equalIn w la lb hla hlb
  have hzb : (la == lb) = decide (compareBytes la lb = 0) := by
    by_cases h : la = lb
    · simp [h, (cb_zero lb lb).2 rfl]
    · have h2 : ¬ compareBytes la lb = 0 := fun h3 => h (hz.1 h3)
      simp [h, h2]
  rw [hzb] at heq
  clear hzb
  clear hz
  generalize compareBytes la lb = X at *
  generalize compareBytes lb lc = Y at *
  generalize compareBytes la lc = Z at *
  generalize (bcells la).toArray = ca at *
  generalize (bcells lb).toArray = cb at *
  generalize (bcells lc).toArray = cc at *
  have Hab := Lib.hid hab
  have Hba := Lib.hid hba
  have Hbc := Lib.hid hbc
  have Hac := Lib.hid hac
  have Hless := Lib.hid hless
  have Htr := Lib.hid htr
  have Heq := Lib.hid heq
  clear hab hba hbc hac hless htr heq
  go_enter Try.func5, Try.ntmps5
  go_upto_region 1 with fail
  obtain ⟨hA, hB, hC, s3⟩ := alloc3 w (.cells ca 25) (.cells cb 25) (.cells cc 25)
  have hK : Kept w.heap.size w.heap.size w (((w.alloc (.cells ca 25)).alloc (.cells cb 25)).alloc (.cells cc 25)) := (((Kept.refl _ _ _).alloc (Nat.le_refl _) _).alloc (by simp) _).alloc (by simp; omega) _
  generalize ((w.alloc (.cells ca 25)).alloc (.cells cb 25)).alloc (.cells cc 25) = w3 at hA hB hC s3 hK ⊢
  obtain ⟨wa, hwa⟩ : ∃ wa, wa = w.heap.size := ⟨_, rfl⟩
  rw [show w.heap.size + 1 + 1 = w.heap.size + 2 from rfl]
  rw [← hwa] at hA hB hC s3 hK ⊢
  have HWA := Lib.hid hwa
  have HA : Hid (∀ w', Kept w3.heap.size w3.heap.size w3 w' → w'.heap[wa]? = some (.cells ca 25 (0, 0))) := Lib.hid fun w' k => (k.block wa (by omega) (by omega)).trans hA
  have HB : Hid (∀ w', Kept w3.heap.size w3.heap.size w3 w' → w'.heap[wa + 1]? = some (.cells cb 25 (0, 0))) := Lib.hid fun w' k => (k.block (wa + 1) (by omega) (by omega)).trans hB
  have HC : Hid (∀ w', Kept w3.heap.size w3.heap.size w3 w' → w'.heap[wa + 2]? = some (.cells cc 25 (0, 0))) := Lib.hid fun w' k => (k.block (wa + 2) (by omega) (by omega)).trans hC
  have HK := Lib.hid hK
  have HS3 := Lib.hid s3
  have kk : Kept w3.heap.size w3.heap.size w3 w3 := Kept.refl _ _ _
  clear hA hB hC hK hwa s3
  have hI : ∀ c : Array Value, c.size = 32 → (Try.prog.info? 25).map (·.size) = some c.size := fun c h => by rw [shaInfo30, h]
  have HI := Lib.hid hI
  clear hI
  have gd := shaGuard25
  have fin : ∀ w', Kept w3.heap.size w3.heap.size w3 w' → Kept w.heap.size w.heap.size w w' := fun w' k => by
    have h1 := HWA.out
    have h3 := HS3.out
    rw [← h1]
    exact HK.out.trans (k.mono (by omega) (fun k hk _ => by omega))
  have Fin := Lib.hid fin
  clear fin
  rcases (show X = -1 ∨ X = 0 ∨ X = 1 by omega) with rfl | rfl | rfl
  · have heq : ∀ w, (Op.equalIn 10000 25 (.agg ca) (.agg cb)).run Try.prog w = .ok false w := fun w => Heq.out w
    have hneg : ∀ w, Calls Try.prog 15 #[.agg cb, .agg ca] w fun e w' => e = .returned (.int .i64 1) ∧ Kept w.heap.size w.heap.size w w' := Hba.out
    have hle : ∀ w, Calls Try.prog 16 #[.agg ca, .agg cb] w fun e w' => e = .returned (.bool true) ∧ Kept w.heap.size w.heap.size w w' := Hless.out
    have Hneg := Lib.hid hneg
    have Hle := Lib.hid hle
    clear hneg hle
    go_wp2_with (first | (with_reducible refine wpList_load_row_g (by with_unfolding_all rfl) 25 _ rfl wa rfl 25 ca (0, 0) _ (HA.out _ kk) Try.underlying25 rfl (HI.out _ hsa) ?_) | (with_reducible refine wpList_load_row_g (by with_unfolding_all rfl) 25 _ rfl (wa + 1) rfl 25 cb (0, 0) _ (HB.out _ kk) Try.underlying25 rfl (HI.out _ hsb) ?_) | (with_reducible refine wpList_load_row_g (by with_unfolding_all rfl) 25 _ rfl (wa + 2) rfl 25 cc (0, 0) _ (HC.out _ kk) Try.underlying25 rfl (HI.out _ hsc) ?_))
    refine (Hab.out _).mono ?_
    rintro e w4 ⟨rfl, k4⟩
    have kk := kk.trans (k4.mono kk.size (fun k hk _ => by have := kk.size; omega))
    go_wp2_with (first | (with_reducible refine wpList_load_row_g (by with_unfolding_all rfl) 25 _ rfl wa rfl 25 ca (0, 0) _ (HA.out _ kk) Try.underlying25 rfl (HI.out _ hsa) ?_) | (with_reducible refine wpList_load_row_g (by with_unfolding_all rfl) 25 _ rfl (wa + 1) rfl 25 cb (0, 0) _ (HB.out _ kk) Try.underlying25 rfl (HI.out _ hsb) ?_) | (with_reducible refine wpList_load_row_g (by with_unfolding_all rfl) 25 _ rfl (wa + 2) rfl 25 cc (0, 0) _ (HC.out _ kk) Try.underlying25 rfl (HI.out _ hsc) ?_))
    refine (awake_calls _).mono ?_
    rintro e w5 ⟨rfl, k5⟩
    have kk := kk.trans (k5.mono kk.size (fun k hk _ => by have := kk.size; omega))
    go_wp2_with (first | (with_reducible refine wpList_load_row_g (by with_unfolding_all rfl) 25 _ rfl wa rfl 25 ca (0, 0) _ (HA.out _ kk) Try.underlying25 rfl (HI.out _ hsa) ?_) | (with_reducible refine wpList_load_row_g (by with_unfolding_all rfl) 25 _ rfl (wa + 1) rfl 25 cb (0, 0) _ (HB.out _ kk) Try.underlying25 rfl (HI.out _ hsb) ?_) | (with_reducible refine wpList_load_row_g (by with_unfolding_all rfl) 25 _ rfl (wa + 2) rfl 25 cc (0, 0) _ (HC.out _ kk) Try.underlying25 rfl (HI.out _ hsc) ?_))
    refine (Hneg.out _).mono ?_
    rintro e w6 ⟨rfl, k6⟩
    have kk := kk.trans (k6.mono kk.size (fun k hk _ => by have := kk.size; omega))
    go_wp2_with (first | (with_reducible refine wpList_load_row_g (by with_unfolding_all rfl) 25 _ rfl wa rfl 25 ca (0, 0) _ (HA.out _ kk) Try.underlying25 rfl (HI.out _ hsa) ?_) | (with_reducible refine wpList_load_row_g (by with_unfolding_all rfl) 25 _ rfl (wa + 1) rfl 25 cb (0, 0) _ (HB.out _ kk) Try.underlying25 rfl (HI.out _ hsb) ?_) | (with_reducible refine wpList_load_row_g (by with_unfolding_all rfl) 25 _ rfl (wa + 2) rfl 25 cc (0, 0) _ (HC.out _ kk) Try.underlying25 rfl (HI.out _ hsc) ?_))
    refine (Hle.out _).mono ?_
    rintro e w7 ⟨rfl, k7⟩
    have kk := kk.trans (k7.mono kk.size (fun k hk _ => by have := kk.size; omega))
    by_cases hY : 0 < Y
    · have hYd : decide (0 < Y) = true := decide_eq_true hY
      go_wp2_with (first | (with_reducible refine wpList_load_row_g (by with_unfolding_all rfl) 25 _ rfl wa rfl 25 ca (0, 0) _ (HA.out _ kk) Try.underlying25 rfl (HI.out _ hsa) ?_) | (with_reducible refine wpList_load_row_g (by with_unfolding_all rfl) 25 _ rfl (wa + 1) rfl 25 cb (0, 0) _ (HB.out _ kk) Try.underlying25 rfl (HI.out _ hsb) ?_) | (with_reducible refine wpList_load_row_g (by with_unfolding_all rfl) 25 _ rfl (wa + 2) rfl 25 cc (0, 0) _ (HC.out _ kk) Try.underlying25 rfl (HI.out _ hsc) ?_))
      refine (Hbc.out _).mono ?_
      rintro e w8 ⟨rfl, k8⟩
      have kk := kk.trans (k8.mono kk.size (fun k hk _ => by have := kk.size; omega))
      go_wp2_with (first | (with_reducible refine wpList_load_row_g (by with_unfolding_all rfl) 25 _ rfl wa rfl 25 ca (0, 0) _ (HA.out _ kk) Try.underlying25 rfl (HI.out _ hsa) ?_) | (with_reducible refine wpList_load_row_g (by with_unfolding_all rfl) 25 _ rfl (wa + 1) rfl 25 cb (0, 0) _ (HB.out _ kk) Try.underlying25 rfl (HI.out _ hsb) ?_) | (with_reducible refine wpList_load_row_g (by with_unfolding_all rfl) 25 _ rfl (wa + 2) rfl 25 cc (0, 0) _ (HC.out _ kk) Try.underlying25 rfl (HI.out _ hsc) ?_))
      go_ret
      exact ⟨rfl, Fin.out _ kk⟩
    · have hZ : Z ≤ 0 := Htr.out (by decide) (by omega)
      have hYd : decide (0 < Y) = false := decide_eq_false hY
      go_wp2_with (first | (with_reducible refine wpList_load_row_g (by with_unfolding_all rfl) 25 _ rfl wa rfl 25 ca (0, 0) _ (HA.out _ kk) Try.underlying25 rfl (HI.out _ hsa) ?_) | (with_reducible refine wpList_load_row_g (by with_unfolding_all rfl) 25 _ rfl (wa + 1) rfl 25 cb (0, 0) _ (HB.out _ kk) Try.underlying25 rfl (HI.out _ hsb) ?_) | (with_reducible refine wpList_load_row_g (by with_unfolding_all rfl) 25 _ rfl (wa + 2) rfl 25 cc (0, 0) _ (HC.out _ kk) Try.underlying25 rfl (HI.out _ hsc) ?_))
      refine (Hbc.out _).mono ?_
      rintro e w8 ⟨rfl, k8⟩
      have kk := kk.trans (k8.mono kk.size (fun k hk _ => by have := kk.size; omega))
      go_wp2_with (first | (with_reducible refine wpList_load_row_g (by with_unfolding_all rfl) 25 _ rfl wa rfl 25 ca (0, 0) _ (HA.out _ kk) Try.underlying25 rfl (HI.out _ hsa) ?_) | (with_reducible refine wpList_load_row_g (by with_unfolding_all rfl) 25 _ rfl (wa + 1) rfl 25 cb (0, 0) _ (HB.out _ kk) Try.underlying25 rfl (HI.out _ hsb) ?_) | (with_reducible refine wpList_load_row_g (by with_unfolding_all rfl) 25 _ rfl (wa + 2) rfl 25 cc (0, 0) _ (HC.out _ kk) Try.underlying25 rfl (HI.out _ hsc) ?_))
      refine (Hac.out _).mono ?_
      rintro e w9 ⟨rfl, k9⟩
      have kk := kk.trans (k9.mono kk.size (fun k hk _ => by have := kk.size; omega))
      go_wp2_with (first | (with_reducible refine wpList_load_row_g (by with_unfolding_all rfl) 25 _ rfl wa rfl 25 ca (0, 0) _ (HA.out _ kk) Try.underlying25 rfl (HI.out _ hsa) ?_) | (with_reducible refine wpList_load_row_g (by with_unfolding_all rfl) 25 _ rfl (wa + 1) rfl 25 cb (0, 0) _ (HB.out _ kk) Try.underlying25 rfl (HI.out _ hsb) ?_) | (with_reducible refine wpList_load_row_g (by with_unfolding_all rfl) 25 _ rfl (wa + 2) rfl 25 cc (0, 0) _ (HC.out _ kk) Try.underlying25 rfl (HI.out _ hsc) ?_))
      go_ret
      exact ⟨rfl, Fin.out _ kk⟩
  · have heq : ∀ w, (Op.equalIn 10000 25 (.agg ca) (.agg cb)).run Try.prog w = .ok true w := fun w => Heq.out w
    have hneg : ∀ w, Calls Try.prog 15 #[.agg cb, .agg ca] w fun e w' => e = .returned (.int .i64 0) ∧ Kept w.heap.size w.heap.size w w' := Hba.out
    have hle : ∀ w, Calls Try.prog 16 #[.agg ca, .agg cb] w fun e w' => e = .returned (.bool false) ∧ Kept w.heap.size w.heap.size w w' := Hless.out
    have Hneg := Lib.hid hneg
    have Hle := Lib.hid hle
    clear hneg hle
    go_wp2_with (first | (with_reducible refine wpList_load_row_g (by with_unfolding_all rfl) 25 _ rfl wa rfl 25 ca (0, 0) _ (HA.out _ kk) Try.underlying25 rfl (HI.out _ hsa) ?_) | (with_reducible refine wpList_load_row_g (by with_unfolding_all rfl) 25 _ rfl (wa + 1) rfl 25 cb (0, 0) _ (HB.out _ kk) Try.underlying25 rfl (HI.out _ hsb) ?_) | (with_reducible refine wpList_load_row_g (by with_unfolding_all rfl) 25 _ rfl (wa + 2) rfl 25 cc (0, 0) _ (HC.out _ kk) Try.underlying25 rfl (HI.out _ hsc) ?_))
    refine (Hab.out _).mono ?_
    rintro e w4 ⟨rfl, k4⟩
    have kk := kk.trans (k4.mono kk.size (fun k hk _ => by have := kk.size; omega))
    go_wp2_with (first | (with_reducible refine wpList_load_row_g (by with_unfolding_all rfl) 25 _ rfl wa rfl 25 ca (0, 0) _ (HA.out _ kk) Try.underlying25 rfl (HI.out _ hsa) ?_) | (with_reducible refine wpList_load_row_g (by with_unfolding_all rfl) 25 _ rfl (wa + 1) rfl 25 cb (0, 0) _ (HB.out _ kk) Try.underlying25 rfl (HI.out _ hsb) ?_) | (with_reducible refine wpList_load_row_g (by with_unfolding_all rfl) 25 _ rfl (wa + 2) rfl 25 cc (0, 0) _ (HC.out _ kk) Try.underlying25 rfl (HI.out _ hsc) ?_))
    refine (awake_calls _).mono ?_
    rintro e w5 ⟨rfl, k5⟩
    have kk := kk.trans (k5.mono kk.size (fun k hk _ => by have := kk.size; omega))
    go_wp2_with (first | (with_reducible refine wpList_load_row_g (by with_unfolding_all rfl) 25 _ rfl wa rfl 25 ca (0, 0) _ (HA.out _ kk) Try.underlying25 rfl (HI.out _ hsa) ?_) | (with_reducible refine wpList_load_row_g (by with_unfolding_all rfl) 25 _ rfl (wa + 1) rfl 25 cb (0, 0) _ (HB.out _ kk) Try.underlying25 rfl (HI.out _ hsb) ?_) | (with_reducible refine wpList_load_row_g (by with_unfolding_all rfl) 25 _ rfl (wa + 2) rfl 25 cc (0, 0) _ (HC.out _ kk) Try.underlying25 rfl (HI.out _ hsc) ?_))
    refine (Hneg.out _).mono ?_
    rintro e w6 ⟨rfl, k6⟩
    have kk := kk.trans (k6.mono kk.size (fun k hk _ => by have := kk.size; omega))
    go_wp2_with (first | (with_reducible refine wpList_load_row_g (by with_unfolding_all rfl) 25 _ rfl wa rfl 25 ca (0, 0) _ (HA.out _ kk) Try.underlying25 rfl (HI.out _ hsa) ?_) | (with_reducible refine wpList_load_row_g (by with_unfolding_all rfl) 25 _ rfl (wa + 1) rfl 25 cb (0, 0) _ (HB.out _ kk) Try.underlying25 rfl (HI.out _ hsb) ?_) | (with_reducible refine wpList_load_row_g (by with_unfolding_all rfl) 25 _ rfl (wa + 2) rfl 25 cc (0, 0) _ (HC.out _ kk) Try.underlying25 rfl (HI.out _ hsc) ?_))
    refine (Hle.out _).mono ?_
    rintro e w7 ⟨rfl, k7⟩
    have kk := kk.trans (k7.mono kk.size (fun k hk _ => by have := kk.size; omega))
    by_cases hY : 0 < Y
    · have hYd : decide (0 < Y) = true := decide_eq_true hY
      go_wp2_with (first | (with_reducible refine wpList_load_row_g (by with_unfolding_all rfl) 25 _ rfl wa rfl 25 ca (0, 0) _ (HA.out _ kk) Try.underlying25 rfl (HI.out _ hsa) ?_) | (with_reducible refine wpList_load_row_g (by with_unfolding_all rfl) 25 _ rfl (wa + 1) rfl 25 cb (0, 0) _ (HB.out _ kk) Try.underlying25 rfl (HI.out _ hsb) ?_) | (with_reducible refine wpList_load_row_g (by with_unfolding_all rfl) 25 _ rfl (wa + 2) rfl 25 cc (0, 0) _ (HC.out _ kk) Try.underlying25 rfl (HI.out _ hsc) ?_))
      refine (Hbc.out _).mono ?_
      rintro e w8 ⟨rfl, k8⟩
      have kk := kk.trans (k8.mono kk.size (fun k hk _ => by have := kk.size; omega))
      go_wp2_with (first | (with_reducible refine wpList_load_row_g (by with_unfolding_all rfl) 25 _ rfl wa rfl 25 ca (0, 0) _ (HA.out _ kk) Try.underlying25 rfl (HI.out _ hsa) ?_) | (with_reducible refine wpList_load_row_g (by with_unfolding_all rfl) 25 _ rfl (wa + 1) rfl 25 cb (0, 0) _ (HB.out _ kk) Try.underlying25 rfl (HI.out _ hsb) ?_) | (with_reducible refine wpList_load_row_g (by with_unfolding_all rfl) 25 _ rfl (wa + 2) rfl 25 cc (0, 0) _ (HC.out _ kk) Try.underlying25 rfl (HI.out _ hsc) ?_))
      go_ret
      exact ⟨rfl, Fin.out _ kk⟩
    · have hZ : Z ≤ 0 := Htr.out (by decide) (by omega)
      have hYd : decide (0 < Y) = false := decide_eq_false hY
      go_wp2_with (first | (with_reducible refine wpList_load_row_g (by with_unfolding_all rfl) 25 _ rfl wa rfl 25 ca (0, 0) _ (HA.out _ kk) Try.underlying25 rfl (HI.out _ hsa) ?_) | (with_reducible refine wpList_load_row_g (by with_unfolding_all rfl) 25 _ rfl (wa + 1) rfl 25 cb (0, 0) _ (HB.out _ kk) Try.underlying25 rfl (HI.out _ hsb) ?_) | (with_reducible refine wpList_load_row_g (by with_unfolding_all rfl) 25 _ rfl (wa + 2) rfl 25 cc (0, 0) _ (HC.out _ kk) Try.underlying25 rfl (HI.out _ hsc) ?_))
      refine (Hbc.out _).mono ?_
      rintro e w8 ⟨rfl, k8⟩
      have kk := kk.trans (k8.mono kk.size (fun k hk _ => by have := kk.size; omega))
      go_wp2_with (first | (with_reducible refine wpList_load_row_g (by with_unfolding_all rfl) 25 _ rfl wa rfl 25 ca (0, 0) _ (HA.out _ kk) Try.underlying25 rfl (HI.out _ hsa) ?_) | (with_reducible refine wpList_load_row_g (by with_unfolding_all rfl) 25 _ rfl (wa + 1) rfl 25 cb (0, 0) _ (HB.out _ kk) Try.underlying25 rfl (HI.out _ hsb) ?_) | (with_reducible refine wpList_load_row_g (by with_unfolding_all rfl) 25 _ rfl (wa + 2) rfl 25 cc (0, 0) _ (HC.out _ kk) Try.underlying25 rfl (HI.out _ hsc) ?_))
      refine (Hac.out _).mono ?_
      rintro e w9 ⟨rfl, k9⟩
      have kk := kk.trans (k9.mono kk.size (fun k hk _ => by have := kk.size; omega))
      go_wp2_with (first | (with_reducible refine wpList_load_row_g (by with_unfolding_all rfl) 25 _ rfl wa rfl 25 ca (0, 0) _ (HA.out _ kk) Try.underlying25 rfl (HI.out _ hsa) ?_) | (with_reducible refine wpList_load_row_g (by with_unfolding_all rfl) 25 _ rfl (wa + 1) rfl 25 cb (0, 0) _ (HB.out _ kk) Try.underlying25 rfl (HI.out _ hsb) ?_) | (with_reducible refine wpList_load_row_g (by with_unfolding_all rfl) 25 _ rfl (wa + 2) rfl 25 cc (0, 0) _ (HC.out _ kk) Try.underlying25 rfl (HI.out _ hsc) ?_))
      go_ret
      exact ⟨rfl, Fin.out _ kk⟩
  · have heq : ∀ w, (Op.equalIn 10000 25 (.agg ca) (.agg cb)).run Try.prog w = .ok false w := fun w => Heq.out w
    have hneg : ∀ w, Calls Try.prog 15 #[.agg cb, .agg ca] w fun e w' => e = .returned (.int .i64 (-1)) ∧ Kept w.heap.size w.heap.size w w' := Hba.out
    have hle : ∀ w, Calls Try.prog 16 #[.agg ca, .agg cb] w fun e w' => e = .returned (.bool false) ∧ Kept w.heap.size w.heap.size w w' := Hless.out
    have Hneg := Lib.hid hneg
    have Hle := Lib.hid hle
    clear hneg hle
    go_wp2_with (first | (with_reducible refine wpList_load_row_g (by with_unfolding_all rfl) 25 _ rfl wa rfl 25 ca (0, 0) _ (HA.out _ kk) Try.underlying25 rfl (HI.out _ hsa) ?_) | (with_reducible refine wpList_load_row_g (by with_unfolding_all rfl) 25 _ rfl (wa + 1) rfl 25 cb (0, 0) _ (HB.out _ kk) Try.underlying25 rfl (HI.out _ hsb) ?_) | (with_reducible refine wpList_load_row_g (by with_unfolding_all rfl) 25 _ rfl (wa + 2) rfl 25 cc (0, 0) _ (HC.out _ kk) Try.underlying25 rfl (HI.out _ hsc) ?_))
    refine (Hab.out _).mono ?_
    rintro e w4 ⟨rfl, k4⟩
    have kk := kk.trans (k4.mono kk.size (fun k hk _ => by have := kk.size; omega))
    go_wp2_with (first | (with_reducible refine wpList_load_row_g (by with_unfolding_all rfl) 25 _ rfl wa rfl 25 ca (0, 0) _ (HA.out _ kk) Try.underlying25 rfl (HI.out _ hsa) ?_) | (with_reducible refine wpList_load_row_g (by with_unfolding_all rfl) 25 _ rfl (wa + 1) rfl 25 cb (0, 0) _ (HB.out _ kk) Try.underlying25 rfl (HI.out _ hsb) ?_) | (with_reducible refine wpList_load_row_g (by with_unfolding_all rfl) 25 _ rfl (wa + 2) rfl 25 cc (0, 0) _ (HC.out _ kk) Try.underlying25 rfl (HI.out _ hsc) ?_))
    refine (awake_calls _).mono ?_
    rintro e w5 ⟨rfl, k5⟩
    have kk := kk.trans (k5.mono kk.size (fun k hk _ => by have := kk.size; omega))
    go_wp2_with (first | (with_reducible refine wpList_load_row_g (by with_unfolding_all rfl) 25 _ rfl wa rfl 25 ca (0, 0) _ (HA.out _ kk) Try.underlying25 rfl (HI.out _ hsa) ?_) | (with_reducible refine wpList_load_row_g (by with_unfolding_all rfl) 25 _ rfl (wa + 1) rfl 25 cb (0, 0) _ (HB.out _ kk) Try.underlying25 rfl (HI.out _ hsb) ?_) | (with_reducible refine wpList_load_row_g (by with_unfolding_all rfl) 25 _ rfl (wa + 2) rfl 25 cc (0, 0) _ (HC.out _ kk) Try.underlying25 rfl (HI.out _ hsc) ?_))
    refine (Hneg.out _).mono ?_
    rintro e w6 ⟨rfl, k6⟩
    have kk := kk.trans (k6.mono kk.size (fun k hk _ => by have := kk.size; omega))
    go_wp2_with (first | (with_reducible refine wpList_load_row_g (by with_unfolding_all rfl) 25 _ rfl wa rfl 25 ca (0, 0) _ (HA.out _ kk) Try.underlying25 rfl (HI.out _ hsa) ?_) | (with_reducible refine wpList_load_row_g (by with_unfolding_all rfl) 25 _ rfl (wa + 1) rfl 25 cb (0, 0) _ (HB.out _ kk) Try.underlying25 rfl (HI.out _ hsb) ?_) | (with_reducible refine wpList_load_row_g (by with_unfolding_all rfl) 25 _ rfl (wa + 2) rfl 25 cc (0, 0) _ (HC.out _ kk) Try.underlying25 rfl (HI.out _ hsc) ?_))
    refine (Hle.out _).mono ?_
    rintro e w7 ⟨rfl, k7⟩
    have kk := kk.trans (k7.mono kk.size (fun k hk _ => by have := kk.size; omega))
    go_wp2_with (first | (with_reducible refine wpList_load_row_g (by with_unfolding_all rfl) 25 _ rfl wa rfl 25 ca (0, 0) _ (HA.out _ kk) Try.underlying25 rfl (HI.out _ hsa) ?_) | (with_reducible refine wpList_load_row_g (by with_unfolding_all rfl) 25 _ rfl (wa + 1) rfl 25 cb (0, 0) _ (HB.out _ kk) Try.underlying25 rfl (HI.out _ hsb) ?_) | (with_reducible refine wpList_load_row_g (by with_unfolding_all rfl) 25 _ rfl (wa + 2) rfl 25 cc (0, 0) _ (HC.out _ kk) Try.underlying25 rfl (HI.out _ hsc) ?_))
    go_ret
    exact ⟨rfl, Fin.out _ kk⟩

end Go.Proofs.Ytabccononnkflaa
