/-
  Common as it landed; the document's Direct, Common, Same.
-/
import Derived.Test.YthhplmgpgnajbaaBoughLow
import Derived.Test.YthhplmgpgnajbaaBoughRefs
import Derived.Deep.RegionWith
namespace Go.Proofs.Ythhplmgpgnajbaa
open Go.RowKit Go.Lib

set_option maxRecDepth 100000 in
set_option maxHeartbeats 1600000 in
theorem common_calls (HL : LenIs) (n a b : Int) (w : World) : Calls Try.prog 27 #[.int .i64 n, .int .i64 a, .int .i64 b] w fun e W' => e = .returned (.int .i64 (Bo.Common n a b)) ∧ Kept w.heap.size w.heap.size w W' := by
  have hn := fun w => isleaf_calls n a w
  have W3 : ∀ x : Int, Kept w.heap.size w.heap.size w (((w.alloc (.cells #[.int .i64 n] 3)).alloc (.cells #[.int .i64 b] 3)).alloc (.cells #[.int .i64 x] 3)) := fun x => (((Kept.refl _ _ _).alloc (Nat.le_refl _) _).alloc (by simp) _).alloc (by simp; omega) _
  have hbR : ∀ x : Int, (((w.alloc (.cells #[.int .i64 n] 3)).alloc (.cells #[.int .i64 b] 3)).alloc (.cells #[.int .i64 x] 3)).cell? ⟨w.heap.size + 1 + 1, 0, none⟩ = some (.int .i64 x) := fun x => by
    have := (Boxed.new ((w.alloc (.cells #[.int .i64 n] 3)).alloc (.cells #[.int .i64 b] 3)) 3 (.int .i64 x)).cell
    rw [World.size_alloc, World.size_alloc] at this
    exact this
  have HK3 := Lib.hid W3
  have HBR := Lib.hid hbR
  clear W3 hbR
  by_cases h : Bo.leaf n a = true
  · by_cases hab : a = b
    · subst hab
      rw [Bo.Common, if_pos h, if_pos rfl]
      rw [h] at hn
      have hb : 0 ≤ a ∧ a ≤ 64 := by simp [Bo.leaf] at h; omega
      obtain ⟨hb1, hb2⟩ := hb
      have HN := Lib.hid hn
      clear hn h
      go_enter Try.func27, Try.ntmps27
      go_wp2_with (go_at_call 45; refine (HN.out _).mono ?_; rintro e w1 ⟨rfl, hw1⟩; subst w1)
      have hc := HBR.out (2 * a)
      refine bodyPost_ret (v := .int .i64 (2 * a)) (by simp [results, Try.f27, go_sem, hc]) rfl ?_
      exact ⟨rfl, HK3.out _⟩
    · rw [Bo.Common, if_pos h, if_neg hab]
      exact (callsIn_wide.1 (common_in HL n a b h hab w)).mono fun e W' ⟨h1, h2⟩ => ⟨h1, Kept.ofBelow h2 (Nat.le_refl _)⟩
  · rw [Bo.Common, if_neg h]
    rw [show Bo.leaf n a = false by simpa using h] at hn
    have HN := Lib.hid hn
    clear hn h
    go_enter Try.func27, Try.ntmps27
    go_wp2_with (go_at_call 45; refine (HN.out _).mono ?_; rintro e w1 ⟨rfl, hw1⟩; subst w1)
    have hc := HBR.out (-1)
    refine bodyPost_ret (v := .int .i64 (-1)) (by simp [results, Try.f27, go_sem, hc]) rfl ?_
    exact ⟨rfl, HK3.out _⟩

end Go.Proofs.Ythhplmgpgnajbaa
