/-
  The walk of the statement ShaSums: the digest of any parts is that of the text that they are together.
-/
import Derived.Test.YtabccononnkflaaShaOneLaw
namespace Go.Proofs.Ytabccononnkflaa
open Go.RowKit

/-- The slice v holds these texts. -/
def Parts (w : World) (v : Value) (parts : List ByteArray) : Prop := ∃ ad c g o, v = .slice ad parts.length c ∧ ∀ j (hj : j < parts.length), ad = some ⟨g, o, none⟩ ∧ g < w.heap.size ∧ w.cell? ⟨g, o + j, none⟩ = some (.string parts[j])

set_option maxRecDepth 100000 in
set_option maxHeartbeats 1600000 in
theorem shasums_walk (v : Value) (parts : List ByteArray) (w : World) (h : Parts w v parts) : Calls Try.prog 3 #[v] w fun e w' => e = .returned (.bool true) ∧ Kept w.heap.size w.heap.size w w' := by
  obtain ⟨ad, c, g, o, rfl, hcell⟩ := h
  have HC := Lib.hid hcell
  clear hcell
  go_enter Try.func3, Try.ntmps3
  go_wp2_with fail
  go_loopw [3, 4] (fun s i w9 => ∃ k : Nat, ∃ T : ByteArray, k ≤ parts.length ∧ k ≤ 1001 ∧ s = .string T ∧ i = .int .i64 (k : Int) ∧ Hid (T.data.toList = joined parts k) ∧ T.size ≤ 20000 ∧ Hid (Kept w.heap.size w.heap.size w w9)) (fun _ i _ => parts.length - (intOf i).toNat)
  case atStart => exact ⟨0, ⟨#[]⟩, by omega, by omega, rfl, rfl, Lib.hid (by simp [joined]), by decide, Lib.hid (Kept.refl _ _ _)⟩
  case round =>
    obtain ⟨k, T, hk, hk2, rfl, rfl, hT, hTs, hK⟩ := hrel
    by_cases hlt : k < parts.length
    · obtain ⟨rfl, hg, hc⟩ := HC.out k hlt
      have hcr : wr.cell? ⟨g, o + k, none⟩ = some (.string parts[k]) := (hK.out.cell (p := ⟨g, o + k, none⟩) hg (by show g ≠ _; omega)).trans hc
      have hmore := joined_more parts k hlt
      generalize parts[k] = S at hcr hmore
      have Hmore := Lib.hid hmore
      clear hc hmore
      have hln : (k : Int) < (parts.length : Int) := by omega
      by_cases h1 : 1000 < k
      · have hd : decide ((1000 : Int) < (k : Int)) = true := decide_eq_true (by omega)
        go_wp2_with fail
        refine (awake_calls _).mono ?_
        rintro e w2 ⟨rfl, k2⟩
        go_wp2
        go_ret
        exact ⟨rfl, hK.out.trans (k2.mono hK.out.size (fun k hk _ => by have := hK.out.size; omega))⟩
      · have hd : decide ((1000 : Int) < (k : Int)) = false := decide_eq_false (by omega)
        by_cases h2 : 20000 < S.size
        · have hd2 : decide ((20000 : Int) < (S.size : Int)) = true := decide_eq_true (by omega)
          go_wp2_with fail
          refine (awake_calls _).mono ?_
          rintro e w2 ⟨rfl, k2⟩
          go_wp2
          go_ret
          exact ⟨rfl, hK.out.trans (k2.mono hK.out.size (fun k hk _ => by have := hK.out.size; omega))⟩
        · have hd2 : decide ((20000 : Int) < (S.size : Int)) = false := decide_eq_false (by omega)
          have hS2 : S.size ≤ 20000 := by omega
          have happ : (T ++ S).data.toList = joined parts (k + 1) := by rw [ByteArray.data_append, Array.toList_append, hT.out, Hmore.out]
          have hsz : (T ++ S).size = T.size + S.size := ByteArray.size_append
          have Happ := Lib.hid happ
          clear happ
          by_cases h3 : 20000 < T.size + S.size
          · have hd3 : decide ((20000 : Int) < ((T.size : Int) + (S.size : Int))) = true := decide_eq_true (by omega)
            go_wp2_with fail
            refine (awake_calls _).mono ?_
            rintro e w2 ⟨rfl, k2⟩
            go_wp2
            go_ret
            exact ⟨rfl, hK.out.trans (k2.mono hK.out.size (fun k hk _ => by have := hK.out.size; omega))⟩
          · have hd3 : decide ((20000 : Int) < ((T.size : Int) + (S.size : Int))) = false := decide_eq_false (by omega)
            go_wp2_with fail
            exact ⟨⟨k + 1, T ++ S, by omega, by omega, rfl, by rw [Int.natCast_add]; rfl, Lib.hid Happ.out, by omega, hK⟩, by simp only [intOf]; omega⟩
    · obtain rfl : k = parts.length := by omega
      have hTl : T.data.toList.length = T.size := by simp
      have hjl : (joined parts parts.length).length = T.size := by rw [← hT.out, hTl]
      have HCr : Hid (∀ w', Kept w.heap.size w.heap.size w w' → ∀ j (hj : j < parts.length), ad = some ⟨g, o, none⟩ ∧ g < w'.heap.size ∧ w'.cell? ⟨g, o + j, none⟩ = some (.string parts[j])) := Lib.hid fun w' hk j hj => by
        obtain ⟨h1, h2, h3⟩ := HC.out j hj
        exact ⟨h1, Nat.lt_of_lt_of_le h2 hk.size, (hk.cell (p := ⟨g, o + j, none⟩) h2 (by show g ≠ _; omega)).trans h3⟩
      have hsum : ∀ w', Kept w.heap.size w.heap.size w w' → Calls Try.prog 9 #[.slice ad parts.length c] w' fun e w'' => e = .returned (.agg (bcells (Sm.sum T.data.toList)).toArray) ∧ Kept w'.heap.size w'.heap.size w' w'' := fun w' hk => by
        have := sum_calls parts ad c g o w' (Lib.hid (by omega)) (Lib.hid (by omega)) (HCr.out w' hk)
        rw [← hT.out] at this
        exact this
      have href := fun w => refsum_calls T w hTs
      have hone : ∀ w : World, Calls Try.prog 9 #[.slice (some ⟨w.heap.size, 0, none⟩) 1 1] (w.alloc (.cells #[.string T] 9)) fun e w'' => e = .returned (.agg (bcells (Sm.sum T.data.toList)).toArray) ∧ Kept (w.alloc (.cells #[.string T] 9)).heap.size (w.alloc (.cells #[.string T] 9)).heap.size (w.alloc (.cells #[.string T] 9)) w'' := fun w =>
        sum_one T w.heap.size (w.alloc (.cells #[.string T] 9)) (Lib.hid (by omega)) (by simp) (World.cell?_alloc_new w _ _ 0)
      have heq := fun w => one_equalIn w (Sm.sum T.data.toList) (sum_length _)
      have gd := oneGuard25
      generalize (bcells (Sm.sum T.data.toList)).toArray = cs at hsum href hone heq
      have Hsum := Lib.hid hsum
      have Href := Lib.hid href
      have Hone := Lib.hid hone
      clear hsum href hone hjl hTl hTs
      go_wp2_with fail
      refine (awake_calls _).mono ?_
      rintro e w2 ⟨rfl, k2⟩
      have kk := hK.out.trans (k2.mono hK.out.size (fun k hk _ => by have := hK.out.size; omega))
      go_wp2_with fail
      refine (Hsum.out w2 kk).mono ?_
      rintro e w3 ⟨rfl, k3⟩
      have kk := kk.trans (k3.mono kk.size (fun k hk _ => by have := kk.size; omega))
      go_wp2_with fail
      refine (Href.out w3).mono ?_
      rintro e w4 ⟨rfl, k4⟩
      have kk := kk.trans (k4.mono kk.size (fun k hk _ => by have := kk.size; omega))
      go_wp2_with fail
      refine (Hone.out w4).mono ?_
      rintro e w5 ⟨rfl, k5⟩
      have kk := kk.alloc kk.size (.cells #[.string T] 9)
      have kk := kk.trans (k5.mono kk.size (fun k hk _ => by have := kk.size; omega))
      go_wp2_with fail
      refine (Href.out w5).mono ?_
      rintro e w6 ⟨rfl, k6⟩
      have kk := kk.trans (k6.mono kk.size (fun k hk _ => by have := kk.size; omega))
      go_wp2
      go_ret
      exact ⟨rfl, kk⟩

end Go.Proofs.Ytabccononnkflaa
