/-
  The landed digest of one text.
-/
import Derived.Test.YtdhebdahfnilkaaShaOf
namespace Go.Proofs.Ytdhebdahfnilkaa
open Go.RowKit

/-- One part. -/
theorem sum_one (s : ByteArray) (g : Nat) (w : World) (hs : Hid (s.size < 1152921504606846976)) (hg : g < w.heap.size) (hc : w.cell? ⟨g, 0, none⟩ = some (.string s)) :
    Calls Try.prog 24 #[.slice (some ⟨g, 0, none⟩) 1 1] w fun e w' => e = .returned (.agg (bcells (Sm.sum s.data.toList)).toArray) ∧ Kept w.heap.size w.heap.size w w' := by
  have e : joined [s] [s].length = s.data.toList := by simp [joined]
  have hl : s.data.toList.length = s.size := by simp
  have := sum_calls [s] (some ⟨g, 0, none⟩) 1 g 0 w (Lib.hid (by show 1 < _; decide)) (Lib.hid (by rw [e, hl]; exact hs.out)) (fun j hj => by
    obtain rfl : j = 0 := by simp at hj; omega
    exact ⟨rfl, hg, hc⟩)
  rw [e] at this
  exact this
theorem sum_length (l : List UInt8) : (Sm.sum l).length = 32 := by
  rw [Sm.sum]
  exact wbytes_length (Sm.blocks (Sm.pad l) ((Sm.pad l).length / 64)).list 8 (Nat.le_refl _)

end Go.Proofs.Ytdhebdahfnilkaa
