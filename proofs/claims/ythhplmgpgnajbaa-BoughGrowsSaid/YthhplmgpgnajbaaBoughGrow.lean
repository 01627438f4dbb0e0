/-
  What a node's sides hold; with one leaf more; how many stand above a leaf.
-/
import Derived.Test.YthhplmgpgnajbaaBoughSeg
namespace Go.Proofs.Ythhplmgpgnajbaa

/-- What is told of a node that isn't a leaf, and of its sides. -/
theorem Bo.say_kids {n x a m : Nat} {p b : Int} (h : Bo.In 0 n x) (h64 : n ≤ 64) (hp : Bo.part n x = (a, m, p, b)) (hm : 2 ≤ m) :
    ∃ l r : Nat, Bo.Left n x = (l : Int) ∧ Bo.Right n x = (r : Int) ∧ Bo.First n l = a ∧ Bo.Behind n l = (a + Bo.half m : Nat) ∧ Bo.First n r = (a + Bo.half m : Nat) ∧ Bo.Behind n r = (a + m : Nat) ∧
      Bo.Above n l = x ∧ Bo.Above n r = x ∧ Bo.Beside n l = r ∧ Bo.Beside n r = l := by
  obtain ⟨a', m', p', b', h1, h2, h3, h4, h5⟩ := Bo.seg_of h h64
  rw [h3] at hp
  obtain ⟨rfl, rfl, rfl, rfl⟩ : a' = a ∧ m' = m ∧ p' = p ∧ b' = b := by simpa using hp
  obtain ⟨e1, e2⟩ := (Bo.say_sides h h64 h3).2 (by omega)
  have hl := Bo.Seg.left h1 hm
  have hr := Bo.Seg.right h1 hm
  have hh := Bo.half_lt hm
  obtain ⟨l1, l2, l3, l4⟩ := Bo.say (hl.inn h.1) h64 (hl.part h.1 h64)
  obtain ⟨r1, r2, r3, r4⟩ := Bo.say (hr.inn h.1) h64 (hr.part h.1 h64)
  refine ⟨_, _, e1, e2, l3, l4, r3, ?_, by rw [l1, h2], by rw [r1, h2], l2, r2⟩
  rw [r4]
  congr 1
  omega
theorem Bo.say_leaf {n x a : Nat} {p b : Int} (h : Bo.In 0 n x) (h64 : n ≤ 64) (hp : Bo.part n x = (a, 1, p, b)) : Bo.Left n x = -1 ∧ Bo.Right n x = -1 ∧ x = 2 * a := by
  obtain ⟨e1, e2⟩ := (Bo.say_sides h h64 hp).1 rfl
  have := (Bo.part_in h h64).1
  rw [hp] at this
  exact ⟨e1, e2, this.symm⟩
theorem Bo.none_there (n : Int) : Bo.First n (-1) = 0 ∧ Bo.Behind n (-1) = 0 := by
  have : Bo.there n (-1) = false := by simp [Bo.there]
  rw [Bo.First, Bo.Behind, this]
  exact ⟨rfl, rfl⟩

/-- With one leaf more a node keeps its place and its left side, and gains a leaf at most. -/
def Bo.grows (n x : Nat) : Bool :=
  let D := Bo.part n x
  let E := Bo.part (n + 1) x
  Nat.beq D.1 E.1 && (if Nat.beq D.2.1 1 then Nat.beq E.2.1 1 else Nat.ble 2 E.2.1 && Nat.beq (Bo.half D.2.1) (Bo.half E.2.1)) && Nat.ble D.2.1 E.2.1 && Nat.ble E.2.1 (D.2.1 + 1)
theorem Bo.grows_all : ((List.range 64).all fun n => n == 0 || (List.range (2 * n - 1)).all fun x => Bo.grows n x) = true := by decide +kernel
theorem Bo.grows_of {n x : Nat} (h1 : 1 ≤ n) (h2 : n ≤ 63) (h3 : x ≤ 2 * n - 2) : Bo.grows n x = true := by
  have h4 := List.all_eq_true.1 Bo.grows_all n (by simp; omega)
  rw [Bool.or_eq_true] at h4
  rcases h4 with h4 | h4
  · simp at h4; omega
  · exact List.all_eq_true.1 h4 x (by simp; omega)
theorem Bo.grown {n x : Nat} (h1 : 1 ≤ n) (h2 : n ≤ 63) (h3 : x ≤ 2 * n - 2) :
    Bo.First n (Bo.Left n x) = Bo.First (n + 1) (Bo.Left (n + 1) x) ∧ Bo.Behind n (Bo.Left n x) = Bo.Behind (n + 1) (Bo.Left (n + 1) x) ∧ Bo.Behind n x ≤ Bo.Behind (n + 1) x ∧ Bo.Behind (n + 1) x ≤ Bo.Behind n x + 1 := by
  have hg := Bo.grows_of h1 h2 h3
  have i1 : Bo.In 0 n x := ⟨h1, by omega, by omega⟩
  have i2 : Bo.In 0 (n + 1) x := ⟨by omega, by omega, by omega⟩
  have e0 : ((n : Int) + 1) = ((n + 1 : Nat) : Int) := by omega
  rw [e0]
  obtain ⟨a, m, p, b, hs, _, hp, hm, _⟩ := Bo.seg_of i1 (by omega)
  obtain ⟨a', m', p', b', hs', _, hp', hm', _⟩ := Bo.seg_of i2 (by omega)
  obtain ⟨_, _, _, e4⟩ := Bo.say i1 (by omega) hp
  obtain ⟨_, _, _, e4'⟩ := Bo.say i2 (by omega) hp'
  rw [Bo.grows, hp, hp'] at hg
  simp only [Bool.and_eq_true, Nat.beq_eq, Nat.ble_eq] at hg
  obtain ⟨⟨⟨g1, g2⟩, g3⟩, g4⟩ := hg
  rw [e4, e4']
  refine ⟨?_, ?_, by omega, by omega⟩
  all_goals
    by_cases hm1 : m = 1
    · subst hm1
      have hm1' : m' = 1 := by simpa using g2
      subst hm1'
      obtain ⟨s1, _, _⟩ := Bo.say_leaf i1 (by omega) hp
      obtain ⟨s2, _, _⟩ := Bo.say_leaf i2 (by omega) hp'
      rw [s1, s2]
      obtain ⟨q1, q2⟩ := Bo.none_there (n : Int)
      obtain ⟨q3, q4⟩ := Bo.none_there ((n + 1 : Nat) : Int)
      first
        | rw [q1, q3]
        | rw [q2, q4]
    · rw [if_neg (by simpa using hm1)] at g2
      simp only [Bool.and_eq_true, Nat.beq_eq, Nat.ble_eq] at g2
      obtain ⟨l, r, t1, _, t3, t4, _⟩ := Bo.say_kids i1 (by omega) hp (by omega)
      obtain ⟨l', r', u1, _, u3, u4, _⟩ := Bo.say_kids i2 (by omega) hp' g2.1
      rw [t1, u1]
      first
        | (rw [t3, u3, g1])
        | (rw [t4, u4, g1, g2.2])

/-- No more than six stand above a leaf. -/
theorem Bo.six_all : ((List.range 65).all fun n => (List.range n).all fun a => Nat.ble (Bo.ups n ((2 * a : Nat) : Int)).length 6) = true := by decide +kernel
theorem Bo.six {n a : Nat} (h : a < n) (h64 : n ≤ 64) : (Bo.Direct n a).length ≤ 6 := by
  rw [Bo.Direct, if_pos (Bo.leaf_of h h64)]
  have h1 := List.all_eq_true.1 (List.all_eq_true.1 Bo.six_all n (by simp; omega)) a (by simpa using h)
  have h2 := Nat.le_of_ble_eq_true h1
  have e : ((2 * a : Nat) : Int) = 2 * (a : Int) := by omega
  rw [e] at h2
  exact h2

end Go.Proofs.Ythhplmgpgnajbaa
