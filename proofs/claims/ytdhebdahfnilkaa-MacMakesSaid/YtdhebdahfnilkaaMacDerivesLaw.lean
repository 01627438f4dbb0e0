/-
  The walk of the statement MacDerives: a key made of a key is the document's.
-/
import Derived.Test.YtdhebdahfnilkaaMacMixesLaw
namespace Go.Proofs.Ytdhebdahfnilkaa
open Go.RowKit

set_option maxRecDepth 100000 in
set_option maxHeartbeats 1600000 in
theorem macderives_walk (l : List UInt8) (hl : l.length = 32) (label context : ByteArray) (w : World) : Calls Try.prog 7 #[.agg (bcells l).toArray, .string label, .string context] w fun e w' => e = .returned (.bool true) ∧ Kept w.heap.size w.heap.size w w' := by
  have hcl : (bcells l).toArray.size = 32 := by rw [List.size_toArray, bcells_length, hl]
  have h1 := fun h2 h3 w => derive_calls l (Lib.hid hl) label context h2 h3 w
  have h2 := fun h2 h3 w => refderive_calls l (Lib.hid hl) label context h2 h3 w
  have heq := fun w => mac_equalIn w (Mc.derive l label.data.toList context.data.toList) (Mc.derive_length _ _ _)
  have gd := macGuard25
  generalize (bcells (Mc.derive l label.data.toList context.data.toList)).toArray = cu at h1 h2 heq
  generalize (bcells l).toArray = ck at hcl h1 h2 ⊢
  have H1 := Lib.hid h1
  have H2 := Lib.hid h2
  clear h1 h2
  go_enter Try.func7, Try.ntmps7
  go_upto_region 1 with fail
  have hA : (w.alloc (.cells ck 25)).heap[w.heap.size]? = some (.cells ck 25 (0, 0)) := heap_new _ _
  have k1 : Kept w.heap.size w.heap.size w (w.alloc (.cells ck 25)) := (Kept.refl _ _ _).alloc (Nat.le_refl _) _
  generalize w.alloc (.cells ck 25) = w1 at hA k1 ⊢
  have hra := fun w' => range_regrown (w := w1) hA w'
  have hia : (Try.prog.info? 25).map (·.size) = some ck.size := by rw [shaInfo30, hcl]
  have HRA := Lib.hid hra
  have HIA := Lib.hid hia
  have K1 := Lib.hid k1
  clear hra hia k1 hA
  have stop : ∀ e w', (e = Ending.returned (.bool true) ∧ Kept w1.heap.size w1.heap.size w1 w') → (e = Ending.returned (.bool true) ∧ Kept w.heap.size w.heap.size w w') := fun e w' ⟨h1, h2⟩ => ⟨h1, K1.out.trans (h2.mono K1.out.size (fun k hk _ => by have := K1.out.size; omega))⟩
  have Stop := Lib.hid stop
  clear stop
  by_cases hz1 : 5000 < label.size
  · have hd1 : decide ((5000 : Int) < (label.size : Int)) = true := decide_eq_true (by omega)
    go_wp2_with fail
    refine (mac_awake _).mono ?_
    rintro e w2 ⟨rfl, k2⟩
    go_wp2
    go_ret
    exact Stop.out _ _ ⟨rfl, k2⟩
  · have hd1 : decide ((5000 : Int) < (label.size : Int)) = false := decide_eq_false (by omega)
    by_cases hz2 : 5000 < context.size
    · have hd2 : decide ((5000 : Int) < (context.size : Int)) = true := decide_eq_true (by omega)
      go_wp2_with fail
      refine (mac_awake _).mono ?_
      rintro e w2 ⟨rfl, k2⟩
      go_wp2
      go_ret
      exact Stop.out _ _ ⟨rfl, k2⟩
    · have hd2 : decide ((5000 : Int) < (context.size : Int)) = false := decide_eq_false (by omega)
      have H1' := Lib.hid (H1.out (Lib.hid (by omega)) (Lib.hid (by omega)))
      have H2' := Lib.hid (H2.out (Lib.hid (by omega)) (Lib.hid (by omega)))
      clear H1 H2 hz1 hz2
      go_upto_region 3 with fail
      refine wp_region_quiet_below (by kernel_rfl) (by kernel_rfl) ?_
      repeat
        first
          | (refine wpQuiet_load_row 25 _ rfl w.heap.size rfl ck _ HRA.out Try.underlying25 rfl HIA.out rfl ?_; go_simp)
          | (quiet_step (first | (go_at_call 9; exact kept_regrown mac_awake) | (go_at_call 12; exact kept_regrown H1'.out) | (go_at_call 13; exact kept_regrown H2'.out)))
      refine wpQuiet_nil ?_
      intro p
      have k2 := regrown_kept (w := w1) ⟨p, rfl⟩
      generalize Go.Sort.grow (redrawn w1 p.d) p.os = w2 at k2 ⊢
      go_wp2
      go_ret
      exact Stop.out _ _ ⟨rfl, k2⟩

end Go.Proofs.Ytdhebdahfnilkaa
