/-
  The law's own function 'few': if it answers true, there are at most 300 things.
-/
import Derived.Test.YtbpcmfnfjbnloaaDoorWireOpen
namespace Go.Proofs.YtbpcmfnfjbnloaaDoor
open Go.RowKit

/-- What 'few' answers. -/
def FewPost (w : World) (len : Nat) (e : Ending) (w' : World) : Prop := ∃ bb : Bool, e = .returned (.bool bb) ∧ (bb = true → len ≤ 300) ∧ w = w'

theorem few_nothing (ao : Option Addr) (cap : Nat) (w : World) : Calls Tryd.prog 12 #[.slice ao 0 cap] w fun e w' => FewPost w 0 e w' := by
  go_enter Tryd.func12, Tryd.ntmps12
  go_wp2
  refine wp_loop_rounds 1 ?_; rw [rounds_succ]
  go_wp2
  go_ret
  exact ⟨_, rfl, fun _ => by omega, rfl⟩

theorem few_some (g o len cap : Nat) (T : Nat → Th) (w : World) (hlen : len ≤ 9223372036854775807) (hok : ∀ i, i < len → (T i).Ok) (hr : ∀ i, i < len → w.rangeAt g (o + i * 36) (T i).cells) :
    Calls Tryd.prog 12 #[.slice (some ⟨g, o, none⟩) len cap] w fun e w' => FewPost w len e w' := by
  have hcell : ∀ i, i < len → w.cell? ⟨g, o + i * 36 + 2, none⟩ = some (.string (T i).s) := fun i hi => hr i hi 2 _ (by simpa using (T i).cell2)
  have Hcell := Lib.hid hcell
  have Hok := Lib.hid hok
  clear hcell hr hok
  go_enter Tryd.func12, Tryd.ntmps12
  go_wp2
  go_loop [3, 4] (fun n i => ∃ (k N : Nat), k ≤ len ∧ k ≤ 300 ∧ (N : Int) ≤ 400000 ∧ i = .int .i64 k ∧ n = .int .i64 N) (fun _ i => 300 - (intOf i).toNat)
  case atStart => exact ⟨0, 0, by omega, by omega, by omega, rfl, rfl⟩
  case round =>
    obtain ⟨k, N, hk, hk3, hN, rfl, rfl⟩ := hrel
    by_cases hlt : k < len
    · have hc := Hcell.out k hlt
      have hs := (Hok.out k hlt).s
      generalize (T k).s = s at hc hs
      by_cases h1 : 300 ≤ k
      · have hd : decide ((300 : Int) ≤ (k : Int)) = true := by rw [decide_eq_true_iff]; omega
        clear hN h1 hk3
        go_wp2
        go_ret
        exact ⟨_, rfl, fun h => (by cases h), rfl⟩
      · have hd : decide ((300 : Int) ≤ (k : Int)) = false := by rw [decide_eq_false_iff_not]; omega
        by_cases h2 : (200000 : Int) < s.size
        · have hd2 : decide ((200000 : Int) < (s.size : Int)) = true := by rw [decide_eq_true_iff]; exact h2
          clear hN h1 hk3 h2
          go_wp2
          go_ret
          exact ⟨_, rfl, fun h => (by cases h), rfl⟩
        · have hd2 : decide ((200000 : Int) < (s.size : Int)) = false := by rw [decide_eq_false_iff_not]; exact h2
          by_cases h3 : (200000 : Int) < N
          · have hd3 : decide ((200000 : Int) < (N : Int)) = true := by rw [decide_eq_true_iff]; exact h3
            clear hN h1 hk3 h2 h3
            go_wp2
            go_ret
            exact ⟨_, rfl, fun h => (by cases h), rfl⟩
          · have hd3 : decide ((200000 : Int) < (N : Int)) = false := by rw [decide_eq_false_iff_not]; exact h3
            go_wp2
            go_round
            case rel => exact ⟨k + 1, N + s.size, by omega, by omega, by omega, by go_num, by go_num⟩
            case measure => simp [intOf]; omega
    · obtain rfl : k = len := by omega
      go_wp2
      go_ret
      exact ⟨_, rfl, fun _ => hk3, rfl⟩

theorem few_any (v : Value) (len : Nat) (T : Nat → Th) (w : World) (h : Things w v len T) : Calls Tryd.prog 12 #[v] w fun e w' => FewPost w len e w' := by
  obtain ⟨ao, cap, rfl, hex⟩ := h.ex
  by_cases h0 : len = 0
  · subst h0
    exact few_nothing ao cap w
  · obtain ⟨g, o, rfl, _, hr⟩ := hex (by omega)
    exact few_some g o len cap T w h.lenLe h.ok hr

theorem Things.same {w w' : World} {v : Value} {len : Nat} {T : Nat → Th} (h : Things w v len T) (k : Kept w.heap.size w.heap.size w w') : Things w' v len T := by
  obtain ⟨ao, cap, rfl, hex⟩ := h.ex
  refine ⟨h.lenLe, h.ok, ao, cap, rfl, fun hpos => ?_⟩
  obtain ⟨g, o, rfl, hg, hr⟩ := hex hpos
  refine ⟨g, o, rfl, Nat.lt_of_lt_of_le hg k.size, fun i hi j u hu => ?_⟩
  rw [k.cell (p := ⟨g, o + i * 36 + j, none⟩) hg (by show g ≠ w.heap.size; omega)]
  exact hr i hi j u hu

end Go.Proofs.YtbpcmfnfjbnloaaDoor
