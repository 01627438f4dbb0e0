/-
  ShaCmp; ShaCmpF: several texts in one.
-/
import Derived.Test.YtmmgekchfgmcdaaProg
import Derived.Test.YtmmgekchfgmcdaaGA
import Derived.Lib.Hide
import Derived.Deep.MidRow
import Derived.Deep.Cut
import Derived.Lib.Bytealg
import Derived.Lib.Walk
import Derived.Deep.QuietTactic
import Derived.BigQuiet
import Derived.Laws.IdiomStrings

namespace Go.Proofs.Ytmmgekchfgmcdaa
open Go.RowKit Go.Lib

/-! ## The order of bytes. -/
theorem cb_anti : ∀ a b : List UInt8, compareBytes a b = - compareBytes b a
  | [], [] => rfl
  | [], _ :: _ => rfl
  | _ :: _, [] => rfl
  | x :: a, y :: b => by
    unfold compareBytes
    by_cases h1 : x < y
    · have h2 : ¬ y < x := fun h => UInt8.lt_irrefl _ (UInt8.lt_trans h1 h)
      rw [if_pos h1, if_neg h2, if_pos h1]
    · by_cases h2 : y < x
      · rw [if_neg h1, if_pos h2, if_pos h2]
        rfl
      · rw [if_neg h1, if_neg h2, if_neg h2, if_neg h1]
        exact cb_anti a b
theorem cb_zero : ∀ a b : List UInt8, compareBytes a b = 0 ↔ a = b
  | [], [] => by simp [compareBytes]
  | [], _ :: _ => by simp [compareBytes]
  | _ :: _, [] => by simp [compareBytes]
  | x :: a, y :: b => by
    unfold compareBytes
    by_cases h1 : x < y
    · rw [if_pos h1]
      constructor
      · intro h; cases h
      · intro h; cases h; exact absurd h1 (UInt8.lt_irrefl _)
    · by_cases h2 : y < x
      · rw [if_neg h1, if_pos h2]
        constructor
        · intro h; cases h
        · intro h; cases h; exact absurd h2 (UInt8.lt_irrefl _)
      · rw [if_neg h1, if_neg h2, cb_zero a b]
        have e : x = y := UInt8.le_antisymm (UInt8.not_lt.1 h2) (UInt8.not_lt.1 h1)
        subst e
        simp
theorem cb_less : ∀ a b : List UInt8, decide (compareBytes a b < 0) = Op.bytesLess a b
  | [], [] => rfl
  | [], _ :: _ => rfl
  | _ :: _, [] => rfl
  | x :: a, y :: b => by
    unfold compareBytes Op.bytesLess
    by_cases h1 : x < y
    · simp [h1]
    · by_cases h2 : y < x
      · have e : (x == y) = false := by
          rw [beq_eq_false_iff_ne]
          rintro rfl
          exact UInt8.lt_irrefl _ h2
        simp [h1, h2, e]
      · have e : x = y := UInt8.le_antisymm (UInt8.not_lt.1 h2) (UInt8.not_lt.1 h1)
        subst e
        rw [if_neg h1, if_neg h1, cb_less a b]
        simp [h1]
theorem cb_range : ∀ a b : List UInt8, -1 ≤ compareBytes a b ∧ compareBytes a b ≤ 1
  | [], [] => by simp [compareBytes]
  | [], _ :: _ => by simp [compareBytes]
  | _ :: _, [] => by simp [compareBytes]
  | x :: a, y :: b => by
    unfold compareBytes
    by_cases h1 : x < y
    · rw [if_pos h1]; decide
    · by_cases h2 : y < x
      · rw [if_neg h1, if_pos h2]; decide
      · rw [if_neg h1, if_neg h2]; exact cb_range a b
theorem cb_trans : ∀ a b c : List UInt8, compareBytes a b ≤ 0 → compareBytes b c ≤ 0 → compareBytes a c ≤ 0
  | [], _, [], _, _ => by simp [compareBytes]
  | [], _, _ :: _, _, _ => by simp [compareBytes]
  | _ :: _, [], _, h, _ => by simp [compareBytes] at h
  | _ :: _, _ :: _, [], _, h => by simp [compareBytes] at h
  | x :: a, y :: b, z :: c, h1, h2 => by
    unfold compareBytes at h1 h2 ⊢
    by_cases xy : x < y
    · by_cases yz : y < z
      · rw [if_pos (UInt8.lt_trans xy yz)]; decide
      · by_cases zy : z < y
        · rw [if_neg yz, if_pos zy] at h2
          exact absurd h2 (by decide)
        · have e : y = z := UInt8.le_antisymm (UInt8.not_lt.1 zy) (UInt8.not_lt.1 yz)
          subst e
          rw [if_pos xy]; decide
    · by_cases yx : y < x
      · rw [if_neg xy, if_pos yx] at h1
        exact absurd h1 (by decide)
      · have e : x = y := UInt8.le_antisymm (UInt8.not_lt.1 yx) (UInt8.not_lt.1 xy)
        subst e
        rw [if_neg xy, if_neg xy] at h1
        by_cases yz : x < z
        · rw [if_pos yz]; decide
        · by_cases zy : z < x
          · rw [if_neg yz, if_pos zy] at h2
            exact absurd h2 (by decide)
          · rw [if_neg yz, if_neg zy] at h2 ⊢
            exact cb_trans a b c h1 h2

/-! ## The entry. -/
theorem run_loadBytes {P : Program} (w : World) : ∀ (l : List UInt8) (a : Addr) (acc : ByteArray), (∀ j (hj : j < l.length), w.cell? (a.add j) = some (.int .u8 (l[j]).toNat)) → (Extern.Bytes.loadBytes a l.length acc).run P w = .ok ⟨acc.data ++ l.toArray⟩ w
  | [], _, acc, _ => by simp [Extern.Bytes.loadBytes]
  | c :: l, a, acc, h => by
    have h0 : w.cell? a = some (.int .u8 c.toNat) := by
      have := h 0 (by simp)
      rw [show a.add 0 = a by unfold Addr.add; split <;> simp_all] at this
      simpa using this
    have ih := run_loadBytes (P := P) w l (a.add 1) (acc.push c) (fun j hj => by
      have := h (j + 1) (by simpa using hj)
      rw [show (a.add 1).add j = a.add (j + 1) by unfold Addr.add; split <;> simp_all <;> omega]
      simpa using this)
    have hc : (c.toNat : Int).toNat.toUInt8 = c := by simp
    simp only [List.length_cons, Extern.Bytes.loadBytes, Sem.run_bind, run_load, h0, Result.andThen_ok]
    rw [hc, ih]
    simp [ByteArray.push]
/-- internal/bytealg.Compare at two slices. -/
theorem run_compare_slices {P : Program} (w : World) (l m : List UInt8) (a b : Addr) (c d : Nat) (ha : ∀ j (hj : j < l.length), w.cell? (a.add j) = some (.int .u8 (l[j]).toNat)) (hb : ∀ j (hj : j < m.length), w.cell? (b.add j) = some (.int .u8 (m[j]).toNat)) :
    (Extern.BytealgCompare.compare #[.slice (some a) l.length c, .slice (some b) m.length d]).run P w = .ok (.int .i64 (compareBytes l m)) w := by
  change Sem.run P (do pure (goInt (Extern.BytealgCompare.cmp (← Extern.Bytes.bytesOf (.slice (some a) l.length c)) (← Extern.Bytes.bytesOf (.slice (some b) m.length d))))) w = _
  simp only [Extern.Bytes.bytesOf, Sem.run_bind, Sem.run_pure, run_loadBytes w l a _ ha, run_loadBytes w m b _ hb, Result.andThen_ok]
  rw [cmp_eq]
  have e0 : ByteArray.empty.data = #[] := rfl
  rw [e0]
  simp [goInt]

end Go.Proofs.Ytmmgekchfgmcdaa

namespace Go.Proofs.Ytmmgekchfgmcdaa
open Go.RowKit Go.Lib

theorem slice_hash (w : World) (b : Nat) : (Instr.sliceAt 34 (.pointer (some ⟨b, 0, none⟩)) none none none).run Try.prog w = .ok (.slice (some ⟨b, 0, none⟩) 32 32) w := by
  have hA : Try.prog.arrayLen 34 = 32 := by kernel_rfl
  have hE : Try.prog.elem 34 = 5 := by kernel_rfl
  have hu : Try.prog.underlying 34 = some (.array (Try.prog.arrayLen 34) (Try.prog.elem 34)) := by kernel_rfl
  rw [run_sliceAt_array_all w 34 _ hu, hE, Try.sizeOf5, hA]
  simp only [Result.andThen_ok, slicedAt]
  rw [if_neg (by decide), Addr.add_lit]
theorem slice_bytes32 (w : World) (b : Nat) : (Instr.sliceAt 33 (.pointer (some ⟨b, 0, none⟩)) none none none).run Try.prog w = .ok (.slice (some ⟨b, 0, none⟩) 32 32) w := by
  have hA : Try.prog.arrayLen 33 = 32 := by kernel_rfl
  have hE : Try.prog.elem 33 = 5 := by kernel_rfl
  have hu : Try.prog.underlying 33 = some (.array (Try.prog.arrayLen 33) (Try.prog.elem 33)) := by kernel_rfl
  rw [run_sliceAt_array_all w 33 _ hu, hE, Try.sizeOf5, hA]
  simp only [Result.andThen_ok, slicedAt]
  rw [if_neg (by decide), Addr.add_lit]

end Go.Proofs.Ytmmgekchfgmcdaa
