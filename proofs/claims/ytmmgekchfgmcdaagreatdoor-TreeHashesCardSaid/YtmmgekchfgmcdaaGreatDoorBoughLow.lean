/-
  The lowest node over two leaves, by the parts that both stand in: the same from both.
-/
import Derived.Test.YtmmgekchfgmcdaaGreatDoorBoughSeg

namespace Go.Proofs.YtmmgekchfgmcdaaGreatDoor

/-- The parts above a node, the lowest first. -/
def Bo.parts : Nat → Nat → Nat → Nat → List (Nat × Nat) → List (Nat × Nat)
  | 0, _, _, _, acc => acc
  | k + 1, a, m, x, acc =>
    if Bo.root a m = x then acc
    else if x < Bo.root a m then Bo.parts k a (Bo.half m) x ((a, m) :: acc)
    else Bo.parts k (a + Bo.half m) (m - Bo.half m) x ((a, m) :: acc)
/-- The lowest part with both, its root. -/
def Bo.both : Nat → Nat → Nat → Nat → Nat → Nat
  | 0, a, m, _, _ => Bo.root a m
  | k + 1, a, m, x, y =>
    if x < a + Bo.half m ∧ y < a + Bo.half m then Bo.both k a (Bo.half m) x y
    else if a + Bo.half m ≤ x ∧ a + Bo.half m ≤ y then Bo.both k (a + Bo.half m) (m - Bo.half m) x y
    else Bo.root a m
theorem Bo.both_comm : ∀ (k a m x y : Nat), Bo.both k a m x y = Bo.both k a m y x := by
  intro k
  induction k with
  | zero => intro a m x y; rfl
  | succ k ih =>
    intro a m x y
    rw [Bo.both, Bo.both, ih a _ x y, ih _ _ x y]
    simp only [and_comm]

/-- The chain above x is that of the parts' roots. -/
theorem Bo.parts_seg {n : Nat} (h1n : 1 ≤ n) (h64 : n ≤ 64) : ∀ (k a m x : Nat) (p b : Int) (acc : List (Nat × Nat)), m ≤ k → Bo.In a m x → Bo.Seg n a m p b →
    Bo.chain n p = acc.map (fun s => (Bo.root s.1 s.2 : Int)) → Bo.ups n x = (Bo.parts k a m x acc).map (fun s => (Bo.root s.1 s.2 : Int)) := by
  intro k
  induction k with
  | zero => intro a m x p b acc h1 h2; have := h2.1; omega
  | succ k ih =>
    intro a m x p b acc h1 h2 h3 hc
    have hin := h3.inn h1n
    obtain ⟨e1, _, _, _⟩ := Bo.say hin h64 (h3.part h1n h64)
    have hc' : Bo.chain n (Bo.root a m : Int) = ((a, m) :: acc).map (fun s => (Bo.root s.1 s.2 : Int)) := by
      rw [Bo.chain_step (by omega), e1, hc]
      rfl
    rcases Nat.lt_trichotomy (Bo.root a m) x with hr | hr | hr
    · have h4 := Bo.two_of h2 (by omega)
      have h5 := Bo.half_lt h4
      have h6 := Bo.half_pos m
      rw [Bo.parts, if_neg (by omega), if_neg (by omega)]
      exact ih _ _ x _ _ _ (by omega) (Bo.in_right h2 hr h4) (.right h3 h4) hc'
    · rw [Bo.parts, if_pos hr, ← hc, Bo.ups, ← hr, e1]
    · have h4 := Bo.two_of h2 (by omega)
      have h5 := Bo.half_lt h4
      rw [Bo.parts, if_neg (by omega), if_pos hr]
      exact ih _ _ x _ _ _ (by omega) (Bo.in_left h2 hr h4) (.left h3 h4) hc'

/-- Who of the parts above a leaf holds another one. -/
theorem Bo.parts_find {n : Nat} (h1n : 1 ≤ n) (h64 : n ≤ 64) (x y : Nat) (hxy : x ≠ y) : ∀ (k a m : Nat) (p b : Int) (acc : List (Nat × Nat)), m ≤ k → a ≤ x → x < a + m → Bo.Seg n a m p b →
    ((Bo.parts k a m (2 * x) acc).map (fun s => (Bo.root s.1 s.2 : Int))).find? (fun z => Bo.Holds n z y) =
      if a ≤ y ∧ y < a + m then some (Bo.both k a m x y : Int) else (acc.map (fun s => (Bo.root s.1 s.2 : Int))).find? (fun z => Bo.Holds n z y) := by
  intro k
  induction k with
  | zero => intro a m p b acc h1 h2 h3; omega
  | succ k ih =>
    intro a m p b acc h1 h2 h3 h4
    have hin := h4.inn h1n
    obtain ⟨_, _, e3, e4⟩ := Bo.say hin h64 (h4.part h1n h64)
    have hholds : Bo.Holds n (Bo.root a m : Int) y = decide (a ≤ y ∧ y < a + m) := by
      rw [Bool.eq_iff_iff]
      simp [Bo.Holds, e3, e4]
      omega
    rcases Nat.lt_or_ge m 2 with hm | hm
    · obtain rfl : m = 1 := by omega
      obtain rfl : a = x := by omega
      rw [Bo.parts, if_pos (Bo.root_one a), if_neg (by omega)]
    · have h5 := Bo.half_lt hm
      have h6 := Bo.half_pos m
      have h7 := Bo.root_two (a := a) hm
      rw [Bo.parts, if_neg (by omega), Bo.both]
      by_cases hx : x < a + Bo.half m
      · rw [if_pos (by omega), ih a _ _ _ _ (by omega) h2 hx (.left h4 hm)]
        by_cases hy : y < a + Bo.half m
        · by_cases hy2 : a ≤ y
          · rw [if_pos ⟨hy2, hy⟩, if_pos ⟨hy2, by omega⟩, if_pos ⟨hx, hy⟩]
          · rw [if_neg (by omega), if_neg (by omega), List.map_cons, List.find?_cons, hholds]
            simp [hy2]
        · rw [if_neg (by omega), List.map_cons, List.find?_cons, hholds]
          by_cases hy2 : y < a + m
          · rw [if_pos ⟨by omega, hy2⟩, if_neg (by omega), if_neg (by omega)]
            simp [show a ≤ y by omega, hy2]
          · rw [if_neg (by omega)]
            simp [hy2]
      · rw [if_neg (by omega), ih _ _ _ _ _ (by omega) (by omega) (by omega) (.right h4 hm)]
        by_cases hy : a + Bo.half m ≤ y
        · by_cases hy2 : y < a + m
          · rw [if_pos ⟨hy, by omega⟩, if_pos ⟨by omega, hy2⟩, if_neg (by omega), if_pos ⟨by omega, hy⟩]
          · rw [if_neg (by omega), if_neg (by omega), List.map_cons, List.find?_cons, hholds]
            simp [hy2]
        · rw [if_neg (by omega), List.map_cons, List.find?_cons, hholds]
          by_cases hy2 : a ≤ y
          · rw [if_pos ⟨hy2, by omega⟩, if_neg (by omega), if_neg (by omega)]
            simp [hy2, show y < a + m by omega]
          · rw [if_neg (by omega)]
            simp [hy2]

theorem Bo.lowest_is {n x y : Nat} (hx : x < n) (hy : y < n) (h64 : n ≤ 64) (hxy : x ≠ y) : Bo.lowest n x y = Bo.both 64 0 n x y := by
  have h1 := Bo.parts_seg (by omega) h64 64 0 n (2 * x) (-1) (-1) [] h64 ⟨by omega, by omega, by omega⟩ .top (by rw [Bo.chain_end (by omega)]; rfl)
  have h2 := Bo.parts_find (by omega) h64 x y hxy 64 0 n (-1) (-1) [] h64 (by omega) (by omega) .top
  rw [if_pos (by omega), ← h1] at h2
  rw [Bo.lowest]
  have e : (2 * (x : Int)) = ((2 * x : Nat) : Int) := by omega
  rw [e, h2]
  rfl
theorem Bo.lowest_none {n a b : Int} (h : Bo.leaf n b = false) : Bo.lowest n a b = -1 := by
  rw [Bo.lowest, List.find?_eq_none.2 (fun z _ hz => by rw [Bo.holds_leaf hz] at h; cases h)]
  rfl
theorem Bo.common_comm (n a b : Int) : Bo.Common n b a = Bo.Common n a b := by
  by_cases hab : a = b
  · rw [hab]
  · have c1 : Bo.Common n a b = if Bo.leaf n a then Bo.lowest n a b else -1 := by rw [Bo.Common, if_neg hab]
    have c2 : Bo.Common n b a = if Bo.leaf n b then Bo.lowest n b a else -1 := by rw [Bo.Common, if_neg (show ¬ b = a from fun e => hab e.symm)]
    rw [c1, c2]
    by_cases ha : Bo.leaf n a = true
    · by_cases hb : Bo.leaf n b = true
      · rw [if_pos ha, if_pos hb]
        obtain ⟨n, x, rfl, rfl, h1, h2⟩ := Bo.leaf_nat ha
        obtain ⟨n', y, e, rfl, h3, h4⟩ := Bo.leaf_nat hb
        obtain rfl : n = n' := by omega
        rw [Bo.lowest_is h1 h3 h2 (by omega), Bo.lowest_is h3 h1 h2 (by omega), Bo.both_comm]
      · rw [if_pos ha, if_neg hb, Bo.lowest_none (by simpa using hb)]
    · by_cases hb : Bo.leaf n b = true
      · rw [if_neg ha, if_pos hb, Bo.lowest_none (by simpa using ha)]
      · rw [if_neg ha, if_neg hb]

end Go.Proofs.YtmmgekchfgmcdaaGreatDoor
