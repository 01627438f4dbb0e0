/-
  The document's example of a code.
-/
import Derived.Test.YtdhebdahfnilkaaMacDerive
import Derived.Test.YtdhebdahfnilkaaShaHexF
namespace Go.Proofs.Ytdhebdahfnilkaa
open Go.RowKit

set_option maxRecDepth 100000 in
theorem mac_awake (w : World) : Calls Try.prog 9 #[] w fun e w' => e = .returned (.bool true) ∧ Kept w.heap.size w.heap.size w w' := by
  obtain ⟨p1, hp1⟩ : ∃ p1 : ByteArray, p1 = ⟨#[119, 104, 97, 116, 32, 100, 111, 32, 121, 97, 32, 119, 97, 110, 116, 32]⟩ := ⟨_, rfl⟩
  obtain ⟨p2, hp2⟩ : ∃ p2 : ByteArray, p2 = ⟨#[102, 111, 114, 32, 110, 111, 116, 104, 105, 110, 103, 63]⟩ := ⟨_, rfl⟩
  obtain ⟨je, hje⟩ : ∃ je : ByteArray, je = ⟨#[74, 101, 102, 101]⟩ := ⟨_, rfl⟩
  have hjn : joined [p1, p2] [p1, p2].length = Mc.nothing := by rw [hp1, hp2]; simp [joined, Mc.nothing]
  have hjl : je.data.toList = Mc.jefe := by rw [hje]; rfl
  have h0 := code_calls je (Lib.hid (by rw [hje]; decide)) [p1, p2] (some ⟨w.heap.size, 0, none⟩) 2 w.heap.size 0 (w.alloc (.cells #[.string p1, .string p2] 9)) (Lib.hid (by show 2 < _; decide)) (Lib.hid (by rw [hjn]; decide)) (Lib.hid fun h => by cases h) (fun j hj => by
    refine ⟨rfl, by simp, ?_⟩
    have hj' : j = 0 ∨ j = 1 := by simp at hj; omega
    rcases hj' with rfl | rfl
    · exact World.cell?_alloc_new w _ _ 0
    · exact World.cell?_alloc_new w _ _ 1)
  have h1 : ∀ w, Calls Try.prog 18 #[.agg (bcells (Mc.code Mc.jefe Mc.nothing)).toArray] w fun e w' => e = .returned (.string (str Mc.said)) ∧ Kept w.heap.size w.heap.size w w' := fun w => by
    have := hex_calls (Mc.code Mc.jefe Mc.nothing) (Mc.code_length _ _) w
    rw [Mc.awake] at this
    exact this
  rw [hjn, hjl] at h0
  generalize (bcells (Mc.code Mc.jefe Mc.nothing)).toArray = cs at h0 h1
  rw [hje, hp1, hp2] at h0
  have H0 := Lib.hid h0
  have H1 := Lib.hid h1
  clear h0 h1 hjn hjl hp1 hp2 hje
  go_enter Try.func9, Try.ntmps9
  go_wp2_with fail
  refine H0.out.mono ?_
  rintro e w1 ⟨rfl, k1⟩
  go_wp2_with fail
  refine (H1.out w1).mono ?_
  rintro e w2 ⟨rfl, k2⟩
  go_wp2
  generalize hq : (Mc.said == _) = B
  have hB : B = true := by
    rw [← hq]
    kernel_rfl
  subst hB
  clear hq
  go_ret
  exact ⟨rfl, (((Kept.refl _ _ _).alloc (Nat.le_refl _) _).trans (k1.mono (by simp) (fun k hk _ => by simp; omega))).trans (k2.mono (by have := k1.size; simp at this; omega) (fun k hk _ => by have := k1.size; simp at this; omega))⟩

end Go.Proofs.Ytdhebdahfnilkaa
