/-
  The document's examples, as every statement looks at them first: 'awake' answers true.
-/
import Derived.Test.YtbpcmfnfjbnloaaDoorWireRef
namespace Go.Proofs.YtbpcmfnfjbnloaaDoor
open Go.RowKit

theorem Kept.out {base b : Nat} {w w1 w2 : World} (h : Kept w.heap.size w.heap.size w w1) (k : Kept base b w1 w2) (h1 : w.heap.size ≤ base) (h2 : w.heap.size ≤ b) : Kept w.heap.size w.heap.size w w2 :=
  h.trans (k.mono h1 (fun k hk _ => by omega))

theorem awake_bytes : pText (pNum (some []) 16384) [97, 98] = some [128, 0, 64, 0, 2, 97, 98] := by decide +kernel
theorem awake_num : Wm.rNum [127, 255] 20000 = ⟨16383, [], 0⟩ := by
  have := Wm.rNum_enc 16383 (by omega) [] 20000 (by omega)
  have e : Wm.enc 16383 ++ [] = [127, 255] := by decide +kernel
  rwa [e] at this

theorem awake_calls (w : World) (ht : Tab w) : Calls Tryd.prog 11 #[] w fun e w' => e = .returned (.bool true) ∧ Kept w.heap.size w.heap.size w w' := by
  have hpos := ht.lt
  go_enter Tryd.func11, Tryd.ntmps11
  go_wp2_with fail
  refine (new_calls w).mono ?_
  rintro e w1 ⟨rfl, h1, k1, s1⟩
  go_wp2_with fail
  refine (wnum_v (w.heap.size + 1) w.heap.size _ (some []) 16384 _ (.inr ⟨rfl, h1⟩) (ht.kept k1 hpos hpos) (fun l hl => by cases hl; simp)).mono ?_
  rintro e w2 ⟨rfl, h2, k2⟩
  have k12 := k1.trans (k2.mono (by omega) (fun _ _ h => h))
  go_wp2_with fail
  refine (wtext_v (w.heap.size + 1) w.heap.size _ _ _ _ h2 (ht.kept k12 hpos hpos) (by decide) (fun l hl => by have := short_num _ 16384 0 (fun l hl => by cases hl; simp) l hl; omega)).mono ?_
  rintro e w3 ⟨rfl, h3, k3⟩
  have k13 := k12.trans (k3.mono (by omega) (fun _ _ h => h))
  have h4 : WrV w3 (w.heap.size + 1) w.heap.size (.pointer (some ⟨w.heap.size, 0, none⟩)) (some [128, 0, 64, 0, 2, 97, 98]) := by
    rw [← awake_bytes]; exact h3
  have h5 : Wr w3 (w.heap.size + 1) w.heap.size (some [128, 0, 64, 0, 2, 97, 98]) := by
    rcases h4 with ⟨h, _⟩ | ⟨_, h⟩
    · cases h
    · exact h
  clear h1 h2 h3 h4
  go_wp2_with fail
  refine (wend_ok _ _ _ _ h5).mono ?_
  rintro e w4 ⟨rfl, rfl⟩
  go_wp2_with fail
  have hs3 := k13.size
  refine (from_calls _ w3).mono ?_
  rintro e w5 ⟨rfl, h6, k5, s5⟩
  have k15 := k13.trans (k5.mono hs3 (fun k hk _ => by omega))
  go_wp2_with fail
  refine (num_run _ _ _ 20000 _ h6 (ht.kept k15 hpos hpos) (by omega)).mono ?_
  rintro e w6 ⟨rfl, h7, k6⟩
  have e1 : (Wm.rNum (ByteArray.mk #[127, 255]).data.toList 20000).val = 16383 := by
    rw [show (ByteArray.mk #[127, 255]).data.toList = [127, 255] from rfl, awake_num]
  rw [e1]
  clear e1 h7 h6
  have hs5 := k5.size
  go_wp2
  go_ret
  exact ⟨rfl, k15.trans (k6.mono (by omega) (fun k hk _ => by omega))⟩
end Go.Proofs.YtbpcmfnfjbnloaaDoor
