/-
  The nodes above one, from the one right above it to the root: as mathematics.
-/
import Derived.Test.YtmmgekchfgmcdaaGreatDoorBoughMath

namespace Go.Proofs.YtmmgekchfgmcdaaGreatDoor

/-- The node above is there, and has more leaves. -/
def Bo.rises (n x : Nat) : Bool :=
  let D := Bo.part n x
  decide (D.2.1 ≤ 64) && (decide (D.2.2.1 < 0) || (decide (D.2.2.1.toNat ≤ 2 * n - 2) && decide (D.2.1 < (Bo.part n D.2.2.1.toNat).2.1) && decide ((Bo.part n D.2.2.1.toNat).2.1 ≤ 64)))
theorem Bo.rises_all : ((List.range 65).all fun n => n == 0 || (List.range (2 * n - 1)).all fun x => Bo.rises n x) = true := by decide +kernel
theorem Bo.rises_of {n x : Nat} (h1 : 1 ≤ n) (h2 : n ≤ 64) (h3 : x ≤ 2 * n - 2) : Bo.rises n x = true := by
  have h4 := List.all_eq_true.1 Bo.rises_all n (by simp; omega)
  rw [Bool.or_eq_true] at h4
  rcases h4 with h4 | h4
  · simp at h4; omega
  · exact List.all_eq_true.1 h4 x (by simp; omega)

/-- How far a node may still be from the root. -/
def Bo.far (n p : Int) : Nat := if p < 0 then 0 else if Bo.there n p then 66 - (Bo.part n.toNat p.toNat).2.1 else 1
theorem Bo.far_less (n p : Int) (h : 0 ≤ p) : Bo.far n (Bo.Above n p) < Bo.far n p := by
  rw [Bo.far, Bo.far, if_neg (show ¬ p < 0 by omega)]
  by_cases ht : Bo.there n p = true
  · rw [if_pos ht, Bo.Above, if_pos ht]
    have ht' := ht
    simp [Bo.there] at ht'
    have hr := Bo.rises_of (n := n.toNat) (x := p.toNat) (by omega) (by omega) (by omega)
    rw [Bo.rises] at hr
    generalize (Bo.part n.toNat p.toNat).2.2.1 = q at hr ⊢
    generalize (Bo.part n.toNat p.toNat).2.1 = m at hr ⊢
    have hm64 : m ≤ 64 := by
      simp only [Bool.and_eq_true, decide_eq_true_eq] at hr
      exact hr.1
    have hr64 : q < 0 ∨ (q.toNat ≤ 2 * n.toNat - 2 ∧ m < (Bo.part n.toNat q.toNat).2.1 ∧ (Bo.part n.toNat q.toNat).2.1 ≤ 64) := by
      simp only [Bool.or_eq_true, Bool.and_eq_true, decide_eq_true_eq] at hr
      rcases hr.2 with hr | ⟨⟨h1, h2⟩, h3⟩
      · exact .inl hr
      · exact .inr ⟨h1, h2, h3⟩
    by_cases hq : q < 0
    · rw [if_pos hq]
      omega
    · rw [if_neg hq]
      obtain ⟨h1, h2, h3⟩ := hr64.resolve_left hq
      have hb : Bo.there n q = true := by simp [Bo.there]; omega
      rw [if_pos hb]
      omega
  · rw [if_neg ht, Bo.Above, if_neg ht]
    simp

/-- The nodes above, this one first. -/
def Bo.upsFrom : Nat → Int → Int → List Int
  | 0, _, _ => []
  | k + 1, n, p => if p < 0 then [] else p :: Bo.upsFrom k n (Bo.Above n p)
theorem Bo.upsFrom_step (k : Nat) (n p : Int) : Bo.upsFrom (k + 1) n p = if p < 0 then [] else p :: Bo.upsFrom k n (Bo.Above n p) := rfl
theorem Bo.upsFrom_more : ∀ (k : Nat) (n p : Int), Bo.far n p ≤ k → Bo.upsFrom (k + 1) n p = Bo.upsFrom k n p := by
  intro k
  induction k with
  | zero =>
    intro n p h
    have hp : p < 0 := by
      rcases Int.lt_or_le p 0 with h1 | h1
      · exact h1
      · have := Bo.far_less n p h1
        omega
    rw [Bo.upsFrom_step, if_pos hp]
    rfl
  | succ k ih =>
    intro n p h
    rw [Bo.upsFrom_step (k + 1) n p, Bo.upsFrom_step k n p]
    by_cases hp : p < 0
    · rw [if_pos hp, if_pos hp]
    · rw [if_neg hp, if_neg hp, ih n _ (by have := Bo.far_less n p (by omega); omega)]
theorem Bo.far_le (n p : Int) : Bo.far n p ≤ 66 := by
  rw [Bo.far]
  split
  · omega
  · split <;> omega
def Bo.chain (n p : Int) : List Int := Bo.upsFrom 66 n p
theorem Bo.chain_end {n p : Int} (h : p < 0) : Bo.chain n p = [] := by rw [Bo.chain, Bo.upsFrom_step, if_pos h]
theorem Bo.chain_step {n p : Int} (h : ¬ p < 0) : Bo.chain n p = p :: Bo.chain n (Bo.Above n p) := by
  have h1 := Bo.far_less n p (by omega)
  have h2 := Bo.far_le n p
  rw [Bo.chain, Bo.upsFrom_step, if_neg h, Bo.chain, Bo.upsFrom_more 65 n _ (by omega)]
theorem Bo.upsFrom_length : ∀ (k : Nat) (n p : Int), (Bo.upsFrom k n p).length ≤ k := by
  intro k
  induction k with
  | zero => intro n p; rw [Bo.upsFrom]; simp
  | succ k ih =>
    intro n p
    rw [Bo.upsFrom]
    split
    · simp
    · simp [ih]
theorem Bo.chain_length (n p : Int) : (Bo.chain n p).length ≤ 66 := Bo.upsFrom_length 66 n p
/-- The nodes above x. -/
def Bo.ups (n x : Int) : List Int := Bo.chain n (Bo.Above n x)

end Go.Proofs.YtmmgekchfgmcdaaGreatDoor
