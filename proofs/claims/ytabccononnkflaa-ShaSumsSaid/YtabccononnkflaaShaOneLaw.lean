/-
  The walk of the statement ShaOne: the digest of one text is the standard's.
-/
import Derived.Test.YtabccononnkflaaShaAwake
import Derived.Test.YtabccononnkflaaShaSum
import Derived.Stop.BytesEq
namespace Go.Proofs.Ytabccononnkflaa
open Go.RowKit

theorem oneGuard25 : Try.prog.eqGuardType Try.prog.depth 25 = false := by kernel_rfl
theorem one_equalIn (w : World) (xs : List UInt8) (hx : xs.length = 32) : (Op.equalIn 10000 25 (.agg (bcells xs).toArray) (.agg (bcells xs).toArray)).run Try.prog w = .ok true w := by
  have := run_equalIn_bytes (P := Try.prog) w 9998 25 5 32 Try.underlying25 Try.underlying5 (fun w => Try.sizeOf5 w) xs xs hx hx
  rw [beq_self_eq_true] at this
  exact this

set_option maxRecDepth 100000 in
theorem shaone_walk (s : ByteArray) (w : World) : Calls Try.prog 6 #[.string s] w fun e w' => e = .returned (.bool true) ∧ Kept w.heap.size w.heap.size w w' := by
  by_cases hlong : 20000 < s.size
  · have hd : decide ((20000 : Int) < (s.size : Int)) = true := decide_eq_true (by omega)
    go_enter Try.func6, Try.ntmps6
    go_wp2
    go_ret
    exact ⟨rfl, Kept.refl _ _ _⟩
  · have hd : decide ((20000 : Int) < (s.size : Int)) = false := decide_eq_false (by omega)
    have hle : s.size ≤ 20000 := by omega
    have h0 := sum_one s w.heap.size (w.alloc (.cells #[.string s] 9)) (Lib.hid (by omega)) (by simp) (World.cell?_alloc_new w _ _ 0)
    have h1 := fun w => refsum_calls s w hle
    have heq := fun w => one_equalIn w (Sm.sum s.data.toList) (sum_length _)
    have gd := oneGuard25
    generalize (bcells (Sm.sum s.data.toList)).toArray = cs at h0 h1 heq
    have H0 := Lib.hid h0
    have H1 := Lib.hid h1
    clear h0 h1 hlong
    go_enter Try.func6, Try.ntmps6
    go_wp2_with fail
    refine H0.out.mono ?_
    rintro e w1 ⟨rfl, k1⟩
    go_wp2_with fail
    refine (H1.out w1).mono ?_
    rintro e w2 ⟨rfl, k2⟩
    go_wp2
    go_ret
    exact ⟨rfl, (((Kept.refl _ _ _).alloc (Nat.le_refl _) _).trans (k1.mono (by simp) (fun k hk _ => by simp; omega))).trans (k2.mono (by have := k1.size; simp at this; omega) (fun k hk _ => by have := k1.size; simp at this; omega))⟩

end Go.Proofs.Ytabccononnkflaa
