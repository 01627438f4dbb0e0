/-
  Signs there and back: what the reading answers to a digest's own signs.
-/
import Derived.Test.YtabccononnkflaaShaUnhex
import Derived.Test.YtabccononnkflaaShaOdd
namespace Go.Proofs.Ytabccononnkflaa
open Go.RowKit

theorem sign_of : ∀ d : Fin 16, signAt (Sm.sign d.val) = (d.val : Int) ∧ isSign (Sm.sign d.val) = true := by decide +kernel
theorem sign_inj {a b : Nat} (ha : a < 16) (hb : b < 16) (h : Sm.sign a = Sm.sign b) : a = b := by
  have h1 := (sign_of ⟨a, ha⟩).1
  have h2 := (sign_of ⟨b, hb⟩).1
  simp only at h1 h2
  rw [h, h2] at h1
  omega
theorem hex_cons (x : UInt8) (l : List UInt8) : Sm.hex (x :: l) = Sm.sign (x.toNat / 16) :: Sm.sign (x.toNat % 16) :: Sm.hex l := rfl
theorem hex_len (l : List UInt8) : (Sm.hex l).length = 2 * l.length := by
  induction l with
  | nil => rfl
  | cons x l ih => rw [hex_cons, List.length_cons, List.length_cons, List.length_cons, ih]; omega
theorem hex_signs (l : List UInt8) : (Sm.hex l).all isSign = true := by
  induction l with
  | nil => rfl
  | cons x l ih =>
    have h := x.toNat_lt
    rw [hex_cons, List.all_cons, List.all_cons, ih, (sign_of ⟨x.toNat / 16, by omega⟩).2, (sign_of ⟨x.toNat % 16, by omega⟩).2]
    rfl
theorem hex_inj : ∀ l m : List UInt8, Sm.hex l = Sm.hex m → l = m
  | [], [], _ => rfl
  | [], y :: m, h => by rw [hex_cons] at h; cases h
  | x :: l, [], h => by rw [hex_cons] at h; cases h
  | x :: l, y :: m, h => by
    rw [hex_cons, hex_cons] at h
    injection h with h1 h
    injection h with h2 h3
    have hx := x.toNat_lt
    have hy := y.toNat_lt
    have e1 := sign_inj (by omega) (by omega) h1
    have e2 := sign_inj (by omega) (by omega) h2
    have : x = y := UInt8.toNat_inj.1 (by omega)
    rw [this, hex_inj l m h3]

theorem unhex_hex (l : List UInt8) (hl : l.length = 32) (w : World) : Calls Try.prog 12 #[.string (str (Sm.hex l))] w fun e w' => e = .returned (.tuple #[.agg (bcells l).toArray, .bool true]) ∧ Kept w.heap.size w.heap.size w w' := by
  refine (unhex_calls (str (Sm.hex l)) w).mono ?_
  rintro e w' ⟨h, hk⟩
  refine ⟨?_, hk⟩
  have hd : (str (Sm.hex l)).data.toList = Sm.hex l := by simp
  have hs : (str (Sm.hex l)).size = 64 := by
    rw [str_size, hex_len, hl]
  rw [UnPost, hd, hs, hex_signs] at h
  rcases h with ⟨_, _, h, h1, h2, h3⟩ | ⟨h | h, _⟩
  · rw [h3, hex_inj _ _ h2]
  · exact absurd rfl h
  · cases h
end Go.Proofs.Ytabccononnkflaa
