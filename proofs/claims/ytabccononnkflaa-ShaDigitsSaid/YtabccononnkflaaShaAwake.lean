/-
  The document's example.
-/
import Derived.Test.YtabccononnkflaaShaOf
import Derived.Test.YtabccononnkflaaShaHexF
namespace Go.Proofs.Ytabccononnkflaa
open Go.RowKit

/-- One part. -/
theorem sum_one (s : ByteArray) (g : Nat) (w : World) (hs : Hid (s.size < 1152921504606846976)) (hg : g < w.heap.size) (hc : w.cell? ⟨g, 0, none⟩ = some (.string s)) :
    Calls Try.prog 9 #[.slice (some ⟨g, 0, none⟩) 1 1] w fun e w' => e = .returned (.agg (bcells (Sm.sum s.data.toList)).toArray) ∧ Kept w.heap.size w.heap.size w w' := by
  have e : joined [s] [s].length = s.data.toList := by simp [joined]
  have hl : s.data.toList.length = s.size := by simp
  have := sum_calls [s] (some ⟨g, 0, none⟩) 1 g 0 w (Lib.hid (by show 1 < _; decide)) (Lib.hid (by rw [e, hl]; exact hs.out)) (fun j hj => by
    obtain rfl : j = 0 := by simp at hj; omega
    exact ⟨rfl, hg, hc⟩)
  rw [e] at this
  exact this
theorem sum_length (l : List UInt8) : (Sm.sum l).length = 32 := by
  rw [Sm.sum]
  exact wbytes_length (Sm.blocks (Sm.pad l) ((Sm.pad l).length / 64)).list 8 (Nat.le_refl _)

theorem awake_calls (w : World) : Calls Try.prog 8 #[] w fun e w' => e = .returned (.bool true) ∧ Kept w.heap.size w.heap.size w w' := by
  have h0 := sum_one ⟨#[97, 98, 99]⟩ w.heap.size (w.alloc (.cells #[.string ⟨#[97, 98, 99]⟩] 9)) (Lib.hid (by show 3 < _; decide)) (by simp) (World.cell?_alloc_new w _ _ 0)
  have h1 : ∀ w, Calls Try.prog 11 #[.agg (bcells (Sm.sum [97, 98, 99])).toArray] w fun e w' => e = .returned (.string (str Sm.abc)) ∧ Kept w.heap.size w.heap.size w w' := fun w => by
    have := hex_calls (Sm.sum [97, 98, 99]) (sum_length _) w
    rw [Sm.awake] at this
    exact this
  rw [show (⟨#[97, 98, 99]⟩ : ByteArray).data.toList = [97, 98, 99] from rfl] at h0
  generalize (bcells (Sm.sum [97, 98, 99])).toArray = cs at h0 h1
  have H0 := Lib.hid h0
  have H1 := Lib.hid h1
  clear h0 h1
  go_enter Try.func8, Try.ntmps8
  go_wp2_with fail
  refine H0.out.mono ?_
  rintro e w1 ⟨rfl, k1⟩
  go_wp2_with fail
  refine (H1.out w1).mono ?_
  rintro e w2 ⟨rfl, k2⟩
  go_wp2
  generalize hq : (Sm.abc == _) = B
  have hB : B = true := by
    rw [← hq]
    kernel_rfl
  subst hB
  clear hq
  go_ret
  exact ⟨rfl, (((Kept.refl _ _ _).alloc (Nat.le_refl _) _).trans (k1.mono (by simp) (fun k hk _ => by simp; omega))).trans (k2.mono (by have := k1.size; simp at this; omega) (fun k hk _ => by have := k1.size; simp at this; omega))⟩

end Go.Proofs.Ytabccononnkflaa
