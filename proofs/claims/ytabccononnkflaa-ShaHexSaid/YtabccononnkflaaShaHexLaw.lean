/-
  The walk of the statement ShaHex: a digest's signs are the document's.
-/
import Derived.Test.YtabccononnkflaaShaAwake
import Derived.Test.YtabccononnkflaaShaRefHex
import Derived.Test.YtabccononnkflaaQuietLoad
namespace Go.Proofs.Ytabccononnkflaa
open Go.RowKit

set_option maxRecDepth 100000 in
set_option maxHeartbeats 1600000 in
theorem shahex_walk (l : List UInt8) (hl : l.length = 32) (w : World) : Calls Try.prog 7 #[.agg (bcells l).toArray] w fun e w' => e = .returned (.bool true) ∧ Kept w.heap.size w.heap.size w w' := by
  have hcs : (bcells l).toArray.size = 32 := by rw [List.size_toArray, bcells_length, hl]
  have hall := bcells_all l
  have h1 := fun w => hex_calls l hl w
  have h2 := fun w => refhex_calls l hl w
  generalize (bcells l).toArray = cs at hcs hall h1 h2 ⊢
  have H1 := Lib.hid h1
  have H2 := Lib.hid h2
  clear h1 h2
  generalize Sm.hex l = hx at H1 H2
  go_enter Try.func7, Try.ntmps7
  go_wp2_with fail
  have hA : (w.alloc (.cells cs 25)).heap[w.heap.size]? = some (.cells cs 25 (0, 0)) := heap_new _ _
  have k1 : Kept w.heap.size w.heap.size w (w.alloc (.cells cs 25)) := (Kept.refl _ _ _).alloc (Nat.le_refl _) _
  generalize w.alloc (.cells cs 25) = w1 at hA k1 ⊢
  have hr := fun w' => range_regrown (w := w1) hA w'
  have hi : (Try.prog.info? 25).map (·.size) = some cs.size := by rw [shaInfo30, hcs]
  have HR := Lib.hid hr
  have HI := Lib.hid hi
  have K1 := Lib.hid k1
  clear hr hi k1 hA
  refine wp_region_quiet_below (by kernel_rfl) (by kernel_rfl) ?_
  repeat
    first
      | (refine wpQuiet_load_row 25 _ rfl w.heap.size rfl cs _ HR.out Try.underlying25 rfl HI.out rfl ?_; go_simp)
      | (quiet_step (first | (go_at_call 8; exact kept_regrown awake_calls) | (go_at_call 11; exact kept_regrown H1.out) | (go_at_call 13; exact kept_regrown H2.out)))
  refine wpQuiet_nil ?_
  intro p
  have k2 := regrown_kept (w := w1) ⟨p, rfl⟩
  generalize Go.Sort.grow (redrawn w1 p.d) p.os = w2 at k2 ⊢
  go_wp2
  go_ret
  exact ⟨rfl, K1.out.trans (k2.mono K1.out.size (fun k hk _ => by have := K1.out.size; omega))⟩

end Go.Proofs.Ytabccononnkflaa
