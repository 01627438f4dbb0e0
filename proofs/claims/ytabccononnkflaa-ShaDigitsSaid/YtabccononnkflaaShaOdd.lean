/-
  The statements' own look: has a text of 64 bytes a byte that is no sign?
-/
import Derived.Test.YtabccononnkflaaShaUnMath
import Derived.Deep.Cut
namespace Go.Proofs.Ytabccononnkflaa
open Go.RowKit

set_option maxRecDepth 100000 in
set_option maxHeartbeats 1600000 in
theorem odd_calls (s : ByteArray) (h64 : s.size = 64) (w : World) : Calls Try.prog 14 #[.string s] w fun e w' => e = .returned (.bool (!s.data.toList.all isSign)) ∧ Kept w.heap.size w.heap.size w w' := by
  have hsl : s.data.toList.length = 64 := by rw [← h64]; simp
  go_enter Try.func14, Try.ntmps14
  go_wp2_with fail
  go_loopw [3] (fun i w9 => ∃ q : Nat, q ≤ 64 ∧ i = .int .i64 (q : Int) ∧ Hid ((s.data.toList.take q).all isSign = true) ∧ Hid (Kept w.heap.size w.heap.size w w9)) (fun i _ => 64 - (intOf i).toNat)
  case atStart => exact ⟨0, by omega, rfl, Lib.hid rfl, Lib.hid (Kept.refl _ _ _)⟩
  case round =>
    obtain ⟨q, hq, rfl, hall, hk⟩ := hrel
    by_cases hlt : q < 64
    · have b1 := fun w => byte_at (P := Try.prog) w 9 Try.underlying9 s q (by omega) (q : Int) (by omega)
      have ht2 : s.data.toList.take (q + 1) = s.data.toList.take q ++ [s.data.toList[q]'(by omega)] := List.take_succ_eq_append_getElem (by omega)
      have hm1 : s.data.toList[q]'(by omega) ∈ s.data.toList := List.getElem_mem _
      generalize s.data.toList[q]'(by omega) = A at b1 ht2 hm1
      have hd : decide ((q : Int) < (s.size : Int)) = true := decide_eq_true (by omega)
      have hAl := A.toNat_lt
      have hsg : isSign A = ((decide (48 ≤ A.toNat) && decide (A.toNat ≤ 57)) || (decide (97 ≤ A.toNat) && decide (A.toNat ≤ 102))) := rfl
      have Hfin : isSign A = false → Hid ((!s.data.toList.all isSign) = true) := fun h => Lib.hid (by rw [List.all_eq_false.2 ⟨A, hm1, by simp [h]⟩]; rfl)
      have Hgo : isSign A = true → Hid ((s.data.toList.take (q + 1)).all isSign = true) := fun h => Lib.hid (by rw [ht2, List.all_append, hall.out]; simp [h])
      generalize A.toNat = n at b1 hAl hsg
      generalize isSign A = g at hsg Hfin Hgo
      have Hfin := Lib.hid Hfin
      have Hgo := Lib.hid Hgo
      clear ht2 hm1
      by_cases c1 : n < 48
      · have hgv : g = false := by rw [hsg]; simp; omega
        have Hf := Hfin.out hgv
        have d1 : decide ((n : Int) < 48) = true := decide_eq_true (by omega)
        have d2 : decide ((n : Int) < 97) = true := decide_eq_true (by omega)
        clear hgv hsg Hfin Hgo
        go_wp2_with fail
        go_ret
        exact ⟨by rw [Hf.out]; rfl, hk.out⟩
      · by_cases c2 : n ≤ 57
        · have hgv : g = true := by rw [hsg]; simp; omega
          have Hg := Hgo.out hgv
          have d1 : decide ((n : Int) < 48) = false := decide_eq_false (by omega)
          have d2 : decide ((57 : Int) < (n : Int)) = false := decide_eq_false (by omega)
          clear hgv hsg Hfin Hgo
          go_wp2_with fail
          exact ⟨⟨q + 1, by omega, by rw [Int.natCast_add]; rfl, Hg, hk⟩, by simp only [intOf]; omega⟩
        · by_cases c3 : n < 97
          · have hgv : g = false := by rw [hsg]; simp; omega
            have Hf := Hfin.out hgv
            have d1 : decide ((n : Int) < 48) = false := decide_eq_false (by omega)
            have d2 : decide ((57 : Int) < (n : Int)) = true := decide_eq_true (by omega)
            have d3 : decide ((n : Int) < 97) = true := decide_eq_true (by omega)
            clear hgv hsg Hfin Hgo
            go_wp2_with fail
            go_ret
            exact ⟨by rw [Hf.out]; rfl, hk.out⟩
          · have d1 : decide ((n : Int) < 48) = false := decide_eq_false (by omega)
            have d2 : decide ((57 : Int) < (n : Int)) = true := decide_eq_true (by omega)
            have d3 : decide ((n : Int) < 97) = false := decide_eq_false (by omega)
            by_cases c4 : n ≤ 102
            · have hgv : g = true := by rw [hsg]; simp; omega
              have Hg := Hgo.out hgv
              have d4 : decide ((102 : Int) < (n : Int)) = false := decide_eq_false (by omega)
              clear hgv hsg Hfin Hgo
              go_wp2_with fail
              exact ⟨⟨q + 1, by omega, by rw [Int.natCast_add]; rfl, Hg, hk⟩, by simp only [intOf]; omega⟩
            · have hgv : g = false := by rw [hsg]; simp; omega
              have Hf := Hfin.out hgv
              have d4 : decide ((102 : Int) < (n : Int)) = true := decide_eq_true (by omega)
              clear hgv hsg Hfin Hgo
              go_wp2_with fail
              go_ret
              exact ⟨by rw [Hf.out]; rfl, hk.out⟩
    · obtain rfl : q = 64 := by omega
      have htk : s.data.toList.take 64 = s.data.toList := List.take_of_length_le (by omega)
      have hall' := hall.out
      rw [htk] at hall'
      have HA := Lib.hid hall'
      have hd : decide (((64 : Nat) : Int) < (s.size : Int)) = false := decide_eq_false (by omega)
      clear hall' htk
      go_wp2_with fail
      go_ret
      exact ⟨by rw [HA.out]; rfl, hk.out⟩

end Go.Proofs.Ytabccononnkflaa
