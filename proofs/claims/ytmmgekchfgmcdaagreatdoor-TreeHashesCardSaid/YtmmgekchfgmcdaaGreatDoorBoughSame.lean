/-
  Same: two rows of numbers compared.
-/
import Derived.Test.YtmmgekchfgmcdaaGreatDoorBoughRDir
import Derived.Laws.OwnMore

namespace Go.Proofs.YtmmgekchfgmcdaaGreatDoor
open Go.RowKit Go.Lib

theorem Ints.at {w : World} {base : Nat} {v : Value} {L : List Int} (h : Ints w base v L) {k : Nat} (hk : k < L.length) : ∃ g cap, v = .slice (some ⟨g, 0, none⟩) L.length cap ∧ w.cell? ⟨g, k, none⟩ = some (.int .i64 L[k]) := by
  rcases h.2 with ⟨_, h0⟩ | ⟨g, cap, cur, rfl, hr⟩
  · omega
  · have := World.ownsRow.cellAt (show w.ownsRow base 3 1 (.slice (some ⟨g, 0, none⟩) L.length cap) L.length (L.map (Value.int .i64)) from h) k (by omega)
    refine ⟨g, cap, rfl, ?_⟩
    rw [this]
    simp [hk]
theorem Ints.len {w : World} {base : Nat} {v : Value} {L : List Int} (h : Ints w base v L) : ∃ g cap, v = .slice g L.length cap := by
  rcases h.2 with ⟨h1, h0⟩ | ⟨g, cap, cur, rfl, hr⟩
  · exact ⟨none, 0, by rw [h1, h0]⟩
  · exact ⟨_, cap, rfl⟩
theorem Ints.kept {w w' : World} {base : Nat} {v : Value} {L : List Int} (h : Ints w base v L) (k : Kept w.heap.size w.heap.size w w') : Ints w' base v L :=
  World.ownsRow.kept h (grownBy_of k) (by
    rcases hv : v.ownBlock with _ | b
    · exact .inl rfl
    · exact .inr (by simp))
theorem Ints.alloc {w : World} {base : Nat} {v : Value} {L : List Int} (h : Ints w base v L) (o : Obj) : Ints (w.alloc o) base v L := h.kept ((Kept.refl _ _ _).alloc (Nat.le_refl _) _)
/-- A row that was written out. -/
theorem Ints.new (w : World) (L : List Int) (h : L.length ≤ maxLen) : Ints (w.alloc (.cells (L.map (Value.int .i64)).toArray 3)) w.heap.size (.slice (some ⟨w.heap.size, 0, none⟩) L.length L.length) L :=
  ⟨by simp, .inr ⟨w.heap.size, L.length, _, rfl, Nat.le_refl _, heap_new _ _, Nat.le_refl _, h, by simp, by simp; rw [List.take_of_length_le (by simp)]⟩⟩

set_option maxRecDepth 100000 in
set_option maxHeartbeats 1600000 in
theorem same_calls (v1 v2 : Value) (b1 b2 : Nat) (L M : List Int) (w : World) (h1 : Ints w b1 v1 L) (h2 : Ints w b2 v2 M) (hL : L.length ≤ 66) : Calls Tryz.prog 22 #[v1, v2] w fun e w' => e = .returned (.bool (L == M)) ∧ Kept w.heap.size w.heap.size w w' := by
  obtain ⟨g1, c1, hv1⟩ := h1.len
  obtain ⟨g2, c2, hv2⟩ := h2.len
  have HC := Lib.hid (fun k (hk : k < L.length) => h1.at hk)
  have MC := Lib.hid (fun k (hk : k < M.length) => h2.at hk)
  subst hv1 hv2
  clear h1 h2
  go_enter Tryz.func22, Tryz.ntmps22
  by_cases hlen : L.length = M.length
  · have hd : ((L.length : Int) != (M.length : Int)) = false := by rw [bne_eq_false_iff_eq, hlen]
    have HLE := Lib.hid hlen
    have hL2 : (L.length : Int) ≤ 66 := by omega
    clear hlen
    go_wp2_with fail
    go_loopw [5] (fun i w9 => ∃ k : Nat, k ≤ L.length ∧ i = .int .i64 (k : Int) ∧ Hid (L.take k = M.take k) ∧ Hid (Kept w.heap.size w.heap.size w w9)) (fun i _ => L.length - (RowKit.intOf i).toNat)
    case atStart => exact ⟨0, by omega, rfl, Lib.hid (by simp), Lib.hid (Kept.refl _ _ _)⟩
    case round =>
      obtain ⟨k, hk, rfl, hno, hK⟩ := hrel
      by_cases hlt : k < L.length
      · have hltm : k < M.length := by rw [← HLE.out]; exact hlt
        obtain ⟨gl, cl, hl1, hl2⟩ := HC.out k hlt
        obtain ⟨gm, cm, hm1, hm2⟩ := MC.out k hltm
        obtain ⟨rfl, rfl⟩ : g1 = some ⟨gl, 0, none⟩ ∧ c1 = cl := by simpa using hl1
        obtain ⟨rfl, rfl⟩ : g2 = some ⟨gm, 0, none⟩ ∧ c2 = cm := by simpa using hm1
        have hln : (k : Int) < (L.length : Int) := by omega
        have hlm : (k : Int) < (M.length : Int) := by omega
        have hk0 : ¬ (k : Int) < 0 := by omega
        have cl' : wr.cell? ⟨gl, k, none⟩ = some (.int .i64 L[k]) := (hK.out.cell (p := ⟨gl, k, none⟩) (World.block_lt_of_cell? _ _ hl2) (Nat.ne_of_lt (World.block_lt_of_cell? _ _ hl2))).trans hl2
        have cm' : wr.cell? ⟨gm, k, none⟩ = some (.int .i64 M[k]) := (hK.out.cell (p := ⟨gm, k, none⟩) (World.block_lt_of_cell? _ _ hm2) (Nat.ne_of_lt (World.block_lt_of_cell? _ _ hm2))).trans hm2
        have hmore : L[k] = M[k] → L.take (k + 1) = M.take (k + 1) := fun e => by
          rw [List.take_succ_eq_append_getElem hlt, List.take_succ_eq_append_getElem hltm, hno.out, e]
        have hfound : L[k] ≠ M[k] → (L == M) = false := fun e => by
          rw [beq_eq_false_iff_ne]
          intro h
          exact e (by subst h; rfl)
        generalize L[k] = X at cl' hmore hfound
        generalize M[k] = Y at cm' hmore hfound
        have Hmore := Lib.hid hmore
        have Hfound := Lib.hid hfound
        have HKK := Lib.hid hK.out.drew
        clear hmore hfound hl1 hl2 hm1 hm2
        go_upto_region 6 with fail
        go_region
        generalize hB : (X != Y) = B
        have HB := Lib.hid hB
        clear hB
        cases B
        · have he : X = Y := by simpa using HB.out
          have HM := Lib.hid (Hmore.out he)
          clear he
          go_wp2
          go_roundw
          case rel => exact ⟨k + 1, by omega, by simp, HM, HKK⟩
          case measure => simp [RowKit.intOf]; omega
        · have he : X ≠ Y := by simpa using HB.out
          have HM := Lib.hid (Hfound.out he)
          clear he
          go_wp2
          go_ret
          exact ⟨by rw [HM.out]; rfl, HKK.out⟩
      · have hkl : k = L.length := by omega
        have hln : ¬ (k : Int) < (L.length : Int) := by omega
        have hE : (L == M) = true := by
          have h3 := hno.out
          rw [hkl, List.take_of_length_le (Nat.le_refl _), List.take_of_length_le (by rw [← HLE.out]; exact Nat.le_refl _)] at h3
          simp [h3]
        have HE := Lib.hid hE
        clear hE hkl
        go_wp2
        go_ret
        exact ⟨by rw [HE.out]; rfl, hK.out⟩
  · have hd : ((L.length : Int) != (M.length : Int)) = true := by simp; omega
    have hE : (L == M) = false := by
      rw [beq_eq_false_iff_ne]
      intro e
      exact hlen (by rw [e])
    have HE := Lib.hid hE
    clear hE hlen
    go_wp2_with fail
    go_ret
    exact ⟨by rw [HE.out]; rfl, Kept.refl _ _ _⟩

end Go.Proofs.YtmmgekchfgmcdaaGreatDoor
