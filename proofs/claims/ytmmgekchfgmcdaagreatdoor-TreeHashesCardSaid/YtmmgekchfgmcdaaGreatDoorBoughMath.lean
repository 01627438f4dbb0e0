/-
  The tree in a row as mathematics: half, root, the way down to a node, what stands below, above and beside it. No function of the program is named here.
-/
import Derived.WalkKit

namespace Go.Proofs.YtmmgekchfgmcdaaGreatDoor

/-- The greatest power of 2 below m (m at least 2). -/
def Bo.half (m : Nat) : Nat := 2 ^ Nat.log2 (m - 1)
/-- The root of m leaves from a on. -/
def Bo.root (a m : Nat) : Nat := if m = 1 then 2 * a else 2 * (a + Bo.half m) - 1

theorem Bo.half_pos (m : Nat) : 1 ≤ Bo.half m := Nat.one_le_two_pow
theorem Bo.half_lt {m : Nat} (h : 2 ≤ m) : Bo.half m < m := by
  have := Nat.log2_self_le (n := m - 1) (by omega)
  unfold Bo.half
  omega
theorem Bo.half_twice {m : Nat} (h : 2 ≤ m) : m ≤ 2 * Bo.half m := by
  have := Nat.lt_log2_self (n := m - 1)
  unfold Bo.half
  rw [Nat.pow_succ] at this
  omega
/-- The only power of 2 below m of which twice is no more below m. -/
theorem Bo.half_one {m i : Nat} (h : 2 ^ i < m) (h2 : ¬ 2 * 2 ^ i < m) : Bo.half m = 2 ^ i := by
  have hm : 2 ≤ m := by have := Nat.one_le_two_pow (n := i); omega
  have h3 := Bo.half_lt hm
  have h4 := Bo.half_twice hm
  unfold Bo.half at *
  generalize Nat.log2 (m - 1) = j at *
  rcases Nat.lt_trichotomy i j with h5 | h5 | h5
  · have := Nat.pow_le_pow_right (n := 2) (by omega) h5
    rw [Nat.pow_succ] at this
    omega
  · rw [h5]
  · have := Nat.pow_le_pow_right (n := 2) (by omega) h5
    rw [Nat.pow_succ] at this
    omega
theorem Bo.root_one (a : Nat) : Bo.root a 1 = 2 * a := rfl
theorem Bo.root_two {a m : Nat} (h : 2 ≤ m) : Bo.root a m = 2 * (a + Bo.half m) - 1 := by rw [Bo.root, if_neg (by omega)]
theorem Bo.root_ge {a m : Nat} (h : 1 ≤ m) : 2 * a ≤ Bo.root a m := by
  rcases Nat.lt_or_ge m 2 with h2 | h2
  · obtain rfl : m = 1 := by omega
    rw [Bo.root_one]; omega
  · rw [Bo.root_two h2]; have := Bo.half_pos m; omega
theorem Bo.root_le {a m : Nat} (h : 1 ≤ m) : Bo.root a m ≤ 2 * (a + m) - 2 := by
  rcases Nat.lt_or_ge m 2 with h2 | h2
  · obtain rfl : m = 1 := by omega
    rw [Bo.root_one]; omega
  · rw [Bo.root_two h2]; have := Bo.half_lt h2; omega

/-- The way down to x: the part of which x is the root (from where, how many), and the nodes above and beside. -/
def Bo.down : Nat → Nat → Nat → Nat → Int → Int → Nat × Nat × Int × Int
  | 0, a, m, _, p, b => (a, m, p, b)
  | k + 1, a, m, x, p, b =>
    if Bo.root a m = x then (a, m, p, b)
    else if x < Bo.root a m then Bo.down k a (Bo.half m) x (Bo.root a m) (Bo.root (a + Bo.half m) (m - Bo.half m))
    else Bo.down k (a + Bo.half m) (m - Bo.half m) x (Bo.root a m) (Bo.root a (Bo.half m))

/-- x is a node of the part of m leaves from a on. -/
def Bo.In (a m x : Nat) : Prop := 1 ≤ m ∧ 2 * a ≤ x ∧ x ≤ 2 * (a + m) - 2

theorem Bo.two_of {a m x : Nat} (h : Bo.In a m x) (hr : Bo.root a m ≠ x) : 2 ≤ m := by
  obtain ⟨h1, h2, h3⟩ := h
  rcases Nat.lt_or_ge m 2 with h4 | h4
  · obtain rfl : m = 1 := by omega
    rw [Bo.root_one] at hr; omega
  · exact h4
theorem Bo.in_left {a m x : Nat} (h : Bo.In a m x) (hl : x < Bo.root a m) (h2 : 2 ≤ m) : Bo.In a (Bo.half m) x := by
  rw [Bo.root_two h2] at hl
  exact ⟨Bo.half_pos m, h.2.1, by have := Bo.half_pos m; omega⟩
theorem Bo.in_right {a m x : Nat} (h : Bo.In a m x) (hl : Bo.root a m < x) (h2 : 2 ≤ m) : Bo.In (a + Bo.half m) (m - Bo.half m) x := by
  rw [Bo.root_two h2] at hl
  have := Bo.half_pos m
  have := Bo.half_lt h2
  exact ⟨by omega, by omega, by have := h.2.2; omega⟩

/-- However much more is granted, the way is the same. -/
theorem Bo.down_more : ∀ (k k' a m x : Nat) (p b : Int), m ≤ k → m ≤ k' → Bo.In a m x → Bo.down k a m x p b = Bo.down k' a m x p b := by
  intro k
  induction k with
  | zero => intro k' a m x p b h1 h2 h3; have := h3.1; omega
  | succ k ih =>
    intro k' a m x p b h1 h2 h3
    obtain ⟨j, rfl⟩ : ∃ j, k' = j + 1 := ⟨k' - 1, by have := h3.1; omega⟩
    rw [Bo.down, Bo.down]
    by_cases hr : Bo.root a m = x
    · rw [if_pos hr, if_pos hr]
    · rw [if_neg hr, if_neg hr]
      have h4 := Bo.two_of h3 hr
      have h5 := Bo.half_lt h4
      have h6 := Bo.half_pos m
      by_cases hl : x < Bo.root a m
      · rw [if_pos hl, if_pos hl]
        exact ih j a _ x _ _ (by omega) (by omega) (Bo.in_left h3 hl h4)
      · rw [if_neg hl, if_neg hl]
        exact ih j _ _ x _ _ (by omega) (by omega) (Bo.in_right h3 (by omega) h4)
theorem Bo.down_root {k a m x : Nat} {p b : Int} (h : 1 ≤ k) (hr : Bo.root a m = x) : Bo.down k a m x p b = (a, m, p, b) := by
  obtain ⟨j, rfl⟩ : ∃ j, k = j + 1 := ⟨k - 1, by omega⟩
  rw [Bo.down, if_pos hr]
theorem Bo.down_left {k a m x : Nat} {p b : Int} (h : 1 ≤ k) (hr : x < Bo.root a m) : Bo.down k a m x p b = Bo.down (k - 1) a (Bo.half m) x (Bo.root a m) (Bo.root (a + Bo.half m) (m - Bo.half m)) := by
  obtain ⟨j, rfl⟩ : ∃ j, k = j + 1 := ⟨k - 1, by omega⟩
  rw [Bo.down, if_neg (by omega), if_pos hr]
  rfl
theorem Bo.down_right {k a m x : Nat} {p b : Int} (h : 1 ≤ k) (hr : Bo.root a m < x) : Bo.down k a m x p b = Bo.down (k - 1) (a + Bo.half m) (m - Bo.half m) x (Bo.root a m) (Bo.root a (Bo.half m)) := by
  obtain ⟨j, rfl⟩ : ∃ j, k = j + 1 := ⟨k - 1, by omega⟩
  rw [Bo.down, if_neg (by omega), if_neg (by omega)]
  rfl
/-- Where the way ends: a part within the whole, of which x is the root. -/
theorem Bo.down_end : ∀ (k a m x : Nat) (p b : Int), m ≤ k → Bo.In a m x → ∃ a' m' p' b', Bo.down k a m x p b = (a', m', p', b') ∧ 1 ≤ m' ∧ a ≤ a' ∧ a' + m' ≤ a + m ∧ Bo.root a' m' = x := by
  intro k
  induction k with
  | zero => intro a m x p b h1 h3; have := h3.1; omega
  | succ k ih =>
    intro a m x p b h1 h3
    by_cases hr : Bo.root a m = x
    · exact ⟨a, m, p, b, by rw [Bo.down, if_pos hr], h3.1, Nat.le_refl _, Nat.le_refl _, hr⟩
    · have h4 := Bo.two_of h3 hr
      have h5 := Bo.half_lt h4
      have h6 := Bo.half_pos m
      by_cases hl : x < Bo.root a m
      · obtain ⟨a', m', p', b', h7, h8, h9, h10, h11⟩ := ih a _ x (Bo.root a m) (Bo.root (a + Bo.half m) (m - Bo.half m)) (by omega) (Bo.in_left h3 hl h4)
        exact ⟨a', m', p', b', by rw [Bo.down, if_neg hr, if_pos hl, h7], h8, h9, by omega, h11⟩
      · obtain ⟨a', m', p', b', h7, h8, h9, h10, h11⟩ := ih (a + Bo.half m) (m - Bo.half m) x (Bo.root a m) (Bo.root a (Bo.half m)) (by omega) (Bo.in_right h3 (by omega) h4)
        exact ⟨a', m', p', b', by rw [Bo.down, if_neg hr, if_neg hl, h7], h8, by omega, by omega, h11⟩

/-- There is such a node. -/
def Bo.there (n x : Int) : Bool := decide (1 ≤ n) && decide (n ≤ 64) && decide (0 ≤ x) && decide (x ≤ 2 * n - 2)
/-- There is such a leaf. -/
def Bo.leaf (n x : Int) : Bool := decide (1 ≤ n) && decide (n ≤ 64) && decide (0 ≤ x) && decide (x < n)
/-- The part below a node of the tree of n leaves. -/
def Bo.part (n x : Nat) : Nat × Nat × Int × Int := Bo.down 64 0 n x (-1) (-1)
def Bo.Root (n : Int) : Int := if Bo.there n 0 then Bo.root 0 n.toNat else -1
def Bo.left (n x : Nat) : Int := if (Bo.part n x).2.1 = 1 then -1 else Bo.root (Bo.part n x).1 (Bo.half (Bo.part n x).2.1)
def Bo.right (n x : Nat) : Int := if (Bo.part n x).2.1 = 1 then -1 else Bo.root ((Bo.part n x).1 + Bo.half (Bo.part n x).2.1) ((Bo.part n x).2.1 - Bo.half (Bo.part n x).2.1)
def Bo.Left (n x : Int) : Int := if Bo.there n x then Bo.left n.toNat x.toNat else -1
def Bo.Right (n x : Int) : Int := if Bo.there n x then Bo.right n.toNat x.toNat else -1
def Bo.Above (n x : Int) : Int := if Bo.there n x then (Bo.part n.toNat x.toNat).2.2.1 else -1
def Bo.Beside (n x : Int) : Int := if Bo.there n x then (Bo.part n.toNat x.toNat).2.2.2 else -1
def Bo.First (n x : Int) : Int := if Bo.there n x then (Bo.part n.toNat x.toNat).1 else 0
def Bo.Behind (n x : Int) : Int := if Bo.there n x then ((Bo.part n.toNat x.toNat).1 + (Bo.part n.toNat x.toNat).2.1 : Nat) else 0
def Bo.Holds (n x leaf : Int) : Bool := decide (Bo.First n x ≤ leaf) && decide (leaf < Bo.Behind n x)

end Go.Proofs.YtmmgekchfgmcdaaGreatDoor
