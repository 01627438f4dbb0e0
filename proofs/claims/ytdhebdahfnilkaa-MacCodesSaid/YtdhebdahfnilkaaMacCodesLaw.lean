/-
  The walk of the statement MacCodes: the code of any parts under any key is that of the text that they are together.
-/
import Derived.Test.YtdhebdahfnilkaaMacMixesLaw
namespace Go.Proofs.Ytdhebdahfnilkaa
open Go.RowKit

/-- The slice v holds these texts. -/
def Texts (w : World) (v : Value) (parts : List ByteArray) : Prop := ∃ ad c g o, v = .slice ad parts.length c ∧ (ad = none → parts.length = 0 ∧ c = 0) ∧ ∀ j (hj : j < parts.length), ad = some ⟨g, o, none⟩ ∧ g < w.heap.size ∧ w.cell? ⟨g, o + j, none⟩ = some (.string parts[j])

set_option maxRecDepth 100000 in
set_option maxHeartbeats 1600000 in
theorem maccodes_walk (key : ByteArray) (v : Value) (parts : List ByteArray) (w : World) (h : Texts w v parts) : Calls Try.prog 3 #[.string key, v] w fun e w' => e = .returned (.bool true) ∧ Kept w.heap.size w.heap.size w w' := by
  obtain ⟨ad, c, g, o, rfl, hnil, hcell⟩ := h
  have HC := Lib.hid hcell
  have HN := Lib.hid hnil
  clear hcell hnil
  go_enter Try.func3, Try.ntmps3
  go_wp2_with fail
  go_loopw [5, 6] (fun s i w9 => ∃ k : Nat, ∃ T : ByteArray, k ≤ parts.length ∧ k ≤ 101 ∧ s = .string T ∧ i = .int .i64 (k : Int) ∧ Hid (T.data.toList = joined parts k) ∧ T.size ≤ 5000 ∧ Hid (Kept w.heap.size w.heap.size w w9)) (fun _ i _ => parts.length - (intOf i).toNat)
  case atStart => exact ⟨0, ⟨#[]⟩, by omega, by omega, rfl, rfl, Lib.hid (by simp [joined]), by decide, Lib.hid (Kept.refl _ _ _)⟩
  case round =>
    obtain ⟨k, T, hk, hk2, rfl, rfl, hT, hTs, hK⟩ := hrel
    by_cases hlt : k < parts.length
    · obtain ⟨rfl, hg, hc⟩ := HC.out k hlt
      have hcr : wr.cell? ⟨g, o + k, none⟩ = some (.string parts[k]) := (hK.out.cell (p := ⟨g, o + k, none⟩) hg (by show g ≠ _; omega)).trans hc
      have hmore := joined_more parts k hlt
      generalize parts[k] = S at hcr hmore
      have Hmore := Lib.hid hmore
      clear hc hmore
      have hln : (k : Int) < (parts.length : Int) := by omega
      by_cases h1 : 100 < k
      · have hd : decide ((100 : Int) < (k : Int)) = true := decide_eq_true (by omega)
        go_wp2_with fail
        refine (mac_awake _).mono ?_
        rintro e w2 ⟨rfl, k2⟩
        go_wp2
        go_ret
        exact ⟨rfl, hK.out.trans (k2.mono hK.out.size (fun k hk _ => by have := hK.out.size; omega))⟩
      · have hd : decide ((100 : Int) < (k : Int)) = false := decide_eq_false (by omega)
        by_cases h2 : 5000 < S.size
        · have hd2 : decide ((5000 : Int) < (S.size : Int)) = true := decide_eq_true (by omega)
          go_wp2_with fail
          refine (mac_awake _).mono ?_
          rintro e w2 ⟨rfl, k2⟩
          go_wp2
          go_ret
          exact ⟨rfl, hK.out.trans (k2.mono hK.out.size (fun k hk _ => by have := hK.out.size; omega))⟩
        · have hd2 : decide ((5000 : Int) < (S.size : Int)) = false := decide_eq_false (by omega)
          have hS2 : S.size ≤ 5000 := by omega
          have happ : (T ++ S).data.toList = joined parts (k + 1) := by rw [ByteArray.data_append, Array.toList_append, hT.out, Hmore.out]
          have hsz : (T ++ S).size = T.size + S.size := ByteArray.size_append
          have Happ := Lib.hid happ
          clear happ
          by_cases h3 : 5000 < T.size + S.size
          · have hd3 : decide ((5000 : Int) < ((T.size : Int) + (S.size : Int))) = true := decide_eq_true (by omega)
            go_wp2_with fail
            refine (mac_awake _).mono ?_
            rintro e w2 ⟨rfl, k2⟩
            go_wp2
            go_ret
            exact ⟨rfl, hK.out.trans (k2.mono hK.out.size (fun k hk _ => by have := hK.out.size; omega))⟩
          · have hd3 : decide ((5000 : Int) < ((T.size : Int) + (S.size : Int))) = false := decide_eq_false (by omega)
            go_wp2_with fail
            exact ⟨⟨k + 1, T ++ S, by omega, by omega, rfl, by rw [Int.natCast_add]; rfl, Lib.hid Happ.out, by omega, hK⟩, by simp only [intOf]; omega⟩
    · obtain rfl : k = parts.length := by omega
      by_cases hkey : 5000 < key.size
      · have hd : decide ((5000 : Int) < (key.size : Int)) = true := decide_eq_true (by omega)
        go_wp2_with fail
        refine (mac_awake _).mono ?_
        rintro e w2 ⟨rfl, k2⟩
        go_wp2
        go_ret
        exact ⟨rfl, hK.out.trans (k2.mono hK.out.size (fun k hk _ => by have := hK.out.size; omega))⟩
      · have hd : decide ((5000 : Int) < (key.size : Int)) = false := decide_eq_false (by omega)
        have hTl : T.data.toList.length = T.size := by simp
        have hjl : (joined parts parts.length).length = T.size := by rw [← hT.out, hTl]
        have HCr : Hid (∀ w', Kept w.heap.size w.heap.size w w' → ∀ j (hj : j < parts.length), ad = some ⟨g, o, none⟩ ∧ g < w'.heap.size ∧ w'.cell? ⟨g, o + j, none⟩ = some (.string parts[j])) := Lib.hid fun w' hk j hj => by
          obtain ⟨h1, h2, h3⟩ := HC.out j hj
          exact ⟨h1, Nat.lt_of_lt_of_le h2 hk.size, (hk.cell (p := ⟨g, o + j, none⟩) h2 (by show g ≠ _; omega)).trans h3⟩
        have hsum : ∀ w', Kept w.heap.size w.heap.size w w' → Calls Try.prog 10 #[.string key, .slice ad parts.length c] w' fun e w'' => e = .returned (.agg (bcells (Mc.code key.data.toList T.data.toList)).toArray) ∧ Kept w'.heap.size w'.heap.size w' w'' := fun w' hk => by
          have := code_calls key (Lib.hid (by omega)) parts ad c g o w' (Lib.hid (by omega)) (Lib.hid (by omega)) HN (HCr.out w' hk)
          rw [← hT.out] at this
          exact this
        have href := fun w => refcode_calls key T (Lib.hid (by omega)) (Lib.hid (by omega)) w
        have heq := fun w => mac_equalIn w (Mc.code key.data.toList T.data.toList) (Mc.code_length _ _)
        have gd := macGuard25
        generalize (bcells (Mc.code key.data.toList T.data.toList)).toArray = cs at hsum href heq
        have Hsum := Lib.hid hsum
        have Href := Lib.hid href
        clear hsum href hjl hTl hTs
        go_wp2_with fail
        refine (mac_awake _).mono ?_
        rintro e w2 ⟨rfl, k2⟩
        have kk := hK.out.trans (k2.mono hK.out.size (fun k hk _ => by have := hK.out.size; omega))
        go_wp2_with fail
        refine (Hsum.out w2 kk).mono ?_
        rintro e w3 ⟨rfl, k3⟩
        have kk := kk.trans (k3.mono kk.size (fun k hk _ => by have := kk.size; omega))
        go_wp2_with fail
        refine (Href.out w3).mono ?_
        rintro e w4 ⟨rfl, k4⟩
        have kk := kk.trans (k4.mono kk.size (fun k hk _ => by have := kk.size; omega))
        go_wp2
        go_ret
        exact ⟨rfl, kk⟩

end Go.Proofs.Ytdhebdahfnilkaa
