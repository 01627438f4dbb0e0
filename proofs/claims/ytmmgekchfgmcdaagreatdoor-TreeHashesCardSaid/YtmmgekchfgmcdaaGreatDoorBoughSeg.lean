/-
  The parts of the tree as mathematics: each part's root, its two sides, who stands above and beside; the lowest node over two leaves, the same from both.
-/
import Derived.Test.YtmmgekchfgmcdaaGreatDoorBoughCommon

namespace Go.Proofs.YtmmgekchfgmcdaaGreatDoor

/-- A part of the tree of n leaves: from where, how many, the node above, the one beside. -/
inductive Bo.Seg (n : Nat) : Nat → Nat → Int → Int → Prop
  | top : Bo.Seg n 0 n (-1) (-1)
  | left {a m : Nat} {p b : Int} : Bo.Seg n a m p b → 2 ≤ m → Bo.Seg n a (Bo.half m) (Bo.root a m) (Bo.root (a + Bo.half m) (m - Bo.half m))
  | right {a m : Nat} {p b : Int} : Bo.Seg n a m p b → 2 ≤ m → Bo.Seg n (a + Bo.half m) (m - Bo.half m) (Bo.root a m) (Bo.root a (Bo.half m))

theorem Bo.Seg.size {n a m : Nat} {p b : Int} (h : Bo.Seg n a m p b) (h1 : 1 ≤ n) : 1 ≤ m ∧ a + m ≤ n := by
  induction h with
  | top => omega
  | left _ h2 ih => have := Bo.half_pos ‹Nat›; have := Bo.half_lt h2; omega
  | right _ h2 ih => have := Bo.half_pos ‹Nat›; have := Bo.half_lt h2; omega
theorem Bo.Seg.way {n a m : Nat} {p b : Int} (h : Bo.Seg n a m p b) (h64 : n ≤ 64) : ∃ k, m ≤ k ∧ ∀ y, Bo.In a m y → Bo.part n y = Bo.down k a m y p b := by
  induction h with
  | top => exact ⟨64, h64, fun y _ => rfl⟩
  | @left a m p b hs h2 ih =>
    obtain ⟨k, hk, hy⟩ := ih
    have h3 := Bo.half_lt h2
    have h4 := Bo.half_pos m
    refine ⟨k - 1, by omega, fun y hin => ?_⟩
    obtain ⟨i1, i2, i3⟩ := hin
    rw [hy y ⟨by omega, i2, by omega⟩, Bo.down_left (by omega) (by rw [Bo.root_two h2]; omega)]
  | @right a m p b hs h2 ih =>
    obtain ⟨k, hk, hy⟩ := ih
    have h3 := Bo.half_lt h2
    have h4 := Bo.half_pos m
    refine ⟨k - 1, by omega, fun y hin => ?_⟩
    obtain ⟨i1, i2, i3⟩ := hin
    rw [hy y ⟨by omega, by omega, by omega⟩, Bo.down_right (by omega) (by rw [Bo.root_two h2]; omega)]
theorem Bo.root_in {a m : Nat} (h : 1 ≤ m) : Bo.In a m (Bo.root a m) := ⟨h, Bo.root_ge h, Bo.root_le h⟩
theorem Bo.Seg.part {n a m : Nat} {p b : Int} (h : Bo.Seg n a m p b) (h1 : 1 ≤ n) (h64 : n ≤ 64) : Bo.part n (Bo.root a m) = (a, m, p, b) := by
  obtain ⟨k, hk, hy⟩ := h.way h64
  have hs := h.size h1
  rw [hy _ (Bo.root_in hs.1), Bo.down_root (by omega) rfl]
theorem Bo.seg_down (n : Nat) : ∀ (k a m x : Nat) (p b : Int), m ≤ k → Bo.In a m x → Bo.Seg n a m p b → ∃ a' m' p' b', Bo.Seg n a' m' p' b' ∧ Bo.root a' m' = x := by
  intro k
  induction k with
  | zero => intro a m x p b h1 h2; have := h2.1; omega
  | succ k ih =>
    intro a m x p b h1 h2 h3
    rcases Nat.lt_trichotomy (Bo.root a m) x with hr | hr | hr
    · have h4 := Bo.two_of h2 (by omega)
      have h5 := Bo.half_lt h4
      have h6 := Bo.half_pos m
      exact ih _ _ x _ _ (by omega) (Bo.in_right h2 hr h4) (.right h3 h4)
    · exact ⟨a, m, p, b, h3, hr⟩
    · have h4 := Bo.two_of h2 (by omega)
      have h5 := Bo.half_lt h4
      exact ih _ _ x _ _ (by omega) (Bo.in_left h2 hr h4) (.left h3 h4)
theorem Bo.seg_of {n x : Nat} (h : Bo.In 0 n x) (h64 : n ≤ 64) : ∃ a m p b, Bo.Seg n a m p b ∧ Bo.root a m = x ∧ Bo.part n x = (a, m, p, b) ∧ 1 ≤ m ∧ a + m ≤ n := by
  obtain ⟨a, m, p, b, h1, h2⟩ := Bo.seg_down n 64 0 n x (-1) (-1) h64 h .top
  exact ⟨a, m, p, b, h1, h2, by rw [← h2]; exact h1.part h.1 h64, h1.size h.1⟩

/-! ## What is told of a node, by its part -/
theorem Bo.say {n x a m : Nat} {p b : Int} (h : Bo.In 0 n x) (h64 : n ≤ 64) (hp : Bo.part n x = (a, m, p, b)) :
    Bo.Above n x = p ∧ Bo.Beside n x = b ∧ Bo.First n x = a ∧ Bo.Behind n x = (a + m : Nat) := by
  have ht := Bo.there_of h h64
  refine ⟨?_, ?_, ?_, ?_⟩
  · rw [Bo.Above, if_pos ht, Int.toNat_natCast, Int.toNat_natCast, hp]
  · rw [Bo.Beside, if_pos ht, Int.toNat_natCast, Int.toNat_natCast, hp]
  · rw [Bo.First, if_pos ht, Int.toNat_natCast, Int.toNat_natCast, hp]
  · rw [Bo.Behind, if_pos ht, Int.toNat_natCast, Int.toNat_natCast, hp]
theorem Bo.say_sides {n x a m : Nat} {p b : Int} (h : Bo.In 0 n x) (h64 : n ≤ 64) (hp : Bo.part n x = (a, m, p, b)) :
    (m = 1 → Bo.Left n x = -1 ∧ Bo.Right n x = -1) ∧ (m ≠ 1 → Bo.Left n x = Bo.root a (Bo.half m) ∧ Bo.Right n x = Bo.root (a + Bo.half m) (m - Bo.half m)) := by
  have ht := Bo.there_of h h64
  rw [Bo.Left, Bo.Right, if_pos ht, if_pos ht, Int.toNat_natCast, Int.toNat_natCast, Bo.left, Bo.right, hp]
  refine ⟨fun h1 => ?_, fun h1 => ?_⟩
  · dsimp only
    rw [if_pos h1, if_pos h1]
    exact ⟨rfl, rfl⟩
  · dsimp only
    rw [if_neg h1, if_neg h1]
    exact ⟨rfl, rfl⟩
theorem Bo.Seg.inn {n a m : Nat} {p b : Int} (h : Bo.Seg n a m p b) (h1 : 1 ≤ n) : Bo.In 0 n (Bo.root a m) := by
  have hs := h.size h1
  have h3 := Bo.root_le (a := a) hs.1
  exact ⟨h1, by omega, by omega⟩

/-- The landed Beside is the document's. -/
theorem Bo.beside_is (n x : Int) : (if Bo.Above n x < 0 then -1 else if x < Bo.Above n x then Bo.Right n (Bo.Above n x) else Bo.Left n (Bo.Above n x)) = Bo.Beside n x := by
  by_cases ht : Bo.there n x = true
  · obtain ⟨n, x, rfl, rfl, h1, h2⟩ := Bo.there_nat ht
    obtain ⟨a, m, p, b, h3, rfl, h5, h6, h7⟩ := Bo.seg_of h1 h2
    obtain ⟨e1, e2, e3, e4⟩ := Bo.say h1 h2 h5
    rw [e1, e2]
    cases h3 with
    | top => rfl
    | @left a m p b hs h2m =>
      have hh := Bo.half_lt h2m
      have hp := Bo.half_pos m
      have hin := hs.inn h1.1
      obtain ⟨e5, e6⟩ := (Bo.say_sides hin h2 (hs.part h1.1 h2)).2 (by omega)
      rw [if_neg (by omega), if_pos ?_, e6]
      have := Bo.root_le (a := a) hp
      have := Bo.root_two (a := a) h2m
      omega
    | @right a m p b hs h2m =>
      have hh := Bo.half_lt h2m
      have hp := Bo.half_pos m
      have hin := hs.inn h1.1
      obtain ⟨e5, e6⟩ := (Bo.say_sides hin h2 (hs.part h1.1 h2)).2 (by omega)
      rw [if_neg (by omega), if_neg ?_, e5]
      have := Bo.root_ge (a := a + Bo.half m) (m := m - Bo.half m) (by omega)
      have := Bo.root_two (a := a) h2m
      omega
  · rw [Bo.Above, Bo.Beside, if_neg ht, if_neg ht]
    rfl

/-- A leaf is held by its own node alone among the leaves' nodes. -/
theorem Bo.leaf_part {n a : Nat} (h : a < n) (h64 : n ≤ 64) : ∃ p b, Bo.part n (2 * a) = (a, 1, p, b) ∧ Bo.In 0 n (2 * a) := by
  have hin : Bo.In 0 n (2 * a) := ⟨by omega, by omega, by omega⟩
  obtain ⟨a', m, p, b, h1, h2, h3, h4, h5⟩ := Bo.seg_of hin h64
  rcases Nat.lt_or_ge m 2 with h6 | h6
  · obtain rfl : m = 1 := by omega
    rw [Bo.root_one] at h2
    obtain rfl : a' = a := by omega
    exact ⟨p, b, h3, hin⟩
  · rw [Bo.root_two h6] at h2
    have := Bo.half_pos m
    omega
theorem Bo.leaf_nat {n a : Int} (h : Bo.leaf n a = true) : ∃ n' a' : Nat, n = (n' : Int) ∧ a = (a' : Int) ∧ a' < n' ∧ n' ≤ 64 := by
  simp [Bo.leaf] at h
  exact ⟨n.toNat, a.toNat, by omega, by omega, by omega, by omega⟩
theorem Bo.leaf_of {n a : Nat} (h : a < n) (h64 : n ≤ 64) : Bo.leaf n a = true := by
  simp [Bo.leaf]; omega
theorem Bo.holds_leaf {n x b : Int} (h : Bo.Holds n x b = true) : Bo.leaf n b = true := by
  by_cases ht : Bo.there n x = true
  · obtain ⟨n, x, rfl, rfl, h1, h2⟩ := Bo.there_nat ht
    obtain ⟨a, m, p, q, _, _, h5, h6, h7⟩ := Bo.seg_of h1 h2
    obtain ⟨_, _, e3, e4⟩ := Bo.say h1 h2 h5
    simp [Bo.Holds, e3, e4] at h
    simp [Bo.leaf]
    omega
  · simp [Bo.Holds, Bo.First, Bo.Behind, ht] at h
    omega
theorem Bo.holds_own {n a b : Nat} (ha : a < n) (h64 : n ≤ 64) : Bo.Holds n ((2 * a : Nat) : Int) b = decide (a = b) := by
  obtain ⟨p, q, h1, h2⟩ := Bo.leaf_part ha h64
  obtain ⟨_, _, e3, e4⟩ := Bo.say h2 h64 h1
  simp only [Bo.Holds, e3, e4]
  by_cases hab : a = b
  · simp [hab]; omega
  · simp [hab]; omega
/-- Who stands below nobody is the root, and holds all. -/
theorem Bo.root_holds {n x b : Nat} (h : Bo.In 0 n x) (h64 : n ≤ 64) (hb : b < n) (ht : Bo.Above n x < 0) : Bo.Holds n x b = true := by
  obtain ⟨a, m, p, q, h1, h2, h3, h4, h5⟩ := Bo.seg_of h h64
  obtain ⟨e1, _, e3, e4⟩ := Bo.say h h64 h3
  rw [e1] at ht
  cases h1 with
  | top => simp [Bo.Holds, e3, e4]; omega
  | left _ _ => omega
  | right _ _ => omega

end Go.Proofs.YtmmgekchfgmcdaaGreatDoor
