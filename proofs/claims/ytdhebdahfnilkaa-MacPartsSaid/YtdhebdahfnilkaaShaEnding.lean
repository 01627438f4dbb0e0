/-
  What the landed digest puts behind a text.
-/
import Derived.Test.YtdhebdahfnilkaaShaCells
import Derived.Test.YtdhebdahfnilkaaShelf
import Derived.Laws.IdiomStrings
namespace Go.Proofs.Ytdhebdahfnilkaa
open Go.RowKit

/-- The byte 80, the zeros, so many bytes of the length. -/
def padEnd (n i : Nat) : List UInt8 := [128] ++ List.replicate (Sm.zeros n) (0 : UInt8) ++ (Sm.be8 (8 * n)).take i
theorem padEnd_length (n i : Nat) (hi : i ≤ 8) : (padEnd n i).length = 1 + Sm.zeros n + i := by
  simp only [padEnd, List.length_append, List.length_replicate, List.length_take, be8_length, List.length_singleton]
  omega
theorem padEnd_more (n i : Nat) (hi : i < 8) : padEnd n i ++ [UInt8.ofNat (8 * n / 256 ^ (7 - i))] = padEnd n (i + 1) := by
  have h8 : i < (Sm.be8 (8 * n)).length := by rw [be8_length]; exact hi
  rw [padEnd, padEnd, List.append_assoc _ _ [_], List.take_succ_eq_append_getElem h8]
  congr 3
  simp [Sm.be8]
theorem padEnd_all (l : List UInt8) : l ++ padEnd l.length 8 = Sm.pad l := by
  rw [padEnd, List.take_of_length_le (by rw [be8_length]; exact Nat.le_refl _), Sm.pad]
  simp only [List.append_assoc]
theorem repeatL_zero : ∀ c, Lib.repeatL [0] c = List.replicate c (0 : UInt8)
  | 0 => rfl
  | c + 1 => by rw [Lib.repeatL, repeatL_zero c]; rfl

set_option maxRecDepth 100000 in
set_option maxHeartbeats 1600000 in
theorem ending_calls (n : Nat) (w : World) (hn : Hid (n < 1152921504606846976)) :
    Calls Try.prog 30 #[.int .u64 (n : Int)] w fun e w' => e = .returned (.string (str (padEnd n 8))) ∧ Kept w.heap.size w.heap.size w w' := by
  have hz : Sm.zeros n < 64 := Nat.mod_lt _ (by decide)
  have h1 : ((n : Int) + 1) % 18446744073709551616 = (n : Int) + 1 := by have := hn.out; omega
  have h2 : (n : Int) * 8 % 18446744073709551616 = (n : Int) * 8 := by have := hn.out; omega
  go_enter Try.func30, Try.ntmps30
  go_wp2_with fail
  have hzz : (56 - ((n : Int) + 1)) % 64 = ((Sm.zeros n : Nat) : Int) := by unfold Sm.zeros; omega
  rw [hzz]
  clear hzz
  refine (Try.strings_Repeat ⟨#[0]⟩ (Sm.zeros n) w (by omega) (by show 1 * Sm.zeros n ≤ _; omega)).mono ?_
  rintro e w1 ⟨rfl, b1⟩
  have k1 : Kept w.heap.size w.heap.size w w1 := Kept.ofBelow b1 (Nat.le_refl _)
  rw [show (⟨#[0]⟩ : ByteArray).data.toList = [0] from rfl, repeatL_zero]
  go_wp2_with fail
  have hS0 : (⟨#[128]⟩ ++ ⟨Array.replicate (Sm.zeros n) 0⟩ : ByteArray).data.toList = padEnd n 0 := by
    simp [padEnd, ByteArray.data_append]
  generalize (⟨#[128]⟩ ++ ⟨Array.replicate (Sm.zeros n) 0⟩ : ByteArray) = S at hS0 ⊢
  have hSs : S.size = 1 + Sm.zeros n := by
    have : S.data.toList.length = S.size := by simp
    rw [← this, hS0, padEnd_length _ _ (by decide)]
    rfl
  rw [run_bytes_of_string (P := Try.prog) w1 9 38 5 S Try.underlying9 Try.underlying38 Try.underlying5]
  have hbuf := Buf.made w1 S (by unfold maxLen; omega)
  have k4 : Kept w1.heap.size w1.heap.size w1 (w1.drew.alloc (.cells (bytesRow S (grownCap w1 S.size 0 5)) 5 ((bytesRow S (grownCap w1 S.size 0 5)).size, (bytesRow S (grownCap w1 S.size 0 5)).size + 1))) := (Kept.refl _ _ _).drew.alloc (Nat.le_refl _) _
  rw [hS0] at hbuf
  generalize w1.drew.alloc (.cells (bytesRow S (grownCap w1 S.size 0 5)) 5 ((bytesRow S (grownCap w1 S.size 0 5)).size, (bytesRow S (grownCap w1 S.size 0 5)).size + 1)) = w4 at hbuf k4 ⊢
  generalize Value.slice (some ⟨w1.heap.size, 0, none⟩) S.size (grownCap w1 S.size 0 5) = v4 at hbuf ⊢
  obtain ⟨B, hB⟩ : ∃ B, B = w1.heap.size := ⟨_, rfl⟩
  rw [← hB] at hbuf k4
  have hs4 : B ≤ w4.heap.size := by rw [hB]; exact k4.size
  have K1 : Hid (Kept w.heap.size w.heap.size w w1) := Lib.hid k1
  have hwB : Hid (w.heap.size ≤ B) := Lib.hid (by rw [hB]; exact k1.size)
  have HB4 := Lib.hid hbuf
  have K4 := Lib.hid k4
  obtain ⟨i0, hi, hz0, hz1, hz2⟩ := sha_u8
  clear hbuf k4 k1 b1 hS0 hSs hB
  go_wp2_with fail
  go_loopw [5, 7] (fun v i w9 => ∃ j : Nat, j ≤ 8 ∧ i = .int .i64 (56 - 8 * (j : Int)) ∧ Hid (Buf w9 B v (padEnd n j)) ∧ Hid (Kept B B w1 w9) ∧ B ≤ w9.heap.size) (fun _ i _ => (intOf i + 8).toNat)
  case atStart => exact ⟨0, by omega, rfl, HB4, K4, hs4⟩
  case round =>
    obtain ⟨j, hj, rfl, hb, k9, hs9⟩ := hrel
    obtain ⟨g, cap, hv, hg1, hg2, hcap, hcell⟩ := hb.out.cells
    have hLl : (padEnd n j).length = 1 + Sm.zeros n + j := padEnd_length n j hj
    have Hcell := Lib.hid hcell
    rw [hLl] at hv hcap
    clear hcell
    subst hv
    by_cases hlt : j < 8
    · have hsh : (56 : Int) - 8 * (j : Int) = ((56 - 8 * j : Nat) : Int) := by omega
      rw [hsh]
      have hX := lenbyte n j hlt
      have hb14 := hb.out.same (w' := wr.alloc (.cells #[.int .u8 ((n : Int) * 8 / 2 ^ (56 - 8 * j) % 256)] 5)) fun k _ hk => Below.heap_alloc _ _ _ hk
      have hc14 : (wr.alloc (.cells #[.int .u8 ((n : Int) * 8 / 2 ^ (56 - 8 * j) % 256)] 5)).cell? ⟨wr.heap.size, 0, none⟩ = some (.int .u8 (UInt8.ofNat (8 * n / 256 ^ (7 - j))).toNat) := (World.cell?_alloc_new wr _ _ 0).trans (by rw [← hX]; rfl)
      have k14 := k9.out.alloc hs9 (.cells #[.int .u8 ((n : Int) * 8 / 2 ^ (56 - 8 * j) % 256)] 5)
      have hs14 : B ≤ (wr.alloc (.cells #[.int .u8 ((n : Int) * 8 / 2 ^ (56 - 8 * j) % 256)] 5)).heap.size := by simp; omega
      have Hb14 := Lib.hid hb14
      have Hc14 := Lib.hid hc14
      have K14 := Lib.hid k14
      have HS14 := Lib.hid hs14
      clear hb14 hX hc14 k14 hs14
      go_wp2_with (at_builtin; refine wpList_append_buf rfl _ _ 38 rfl B i0 Try.underlying38 hi hz0 hz1 hz2 _ _ rfl Hb14.out ⟨wr.heap.size, 0, none⟩ 1 _ rfl Hc14.out (by rw [hLl]; omega) HS14.out ?_)
      intro v15 w15 hb15 hg15
      have k15 : Kept B B w1 w15 := K14.out.grown hg15 HS14.out (fun k hk => by cases hk; exact hg1)
      have hs15 := hg15.size
      have hs16 := HS14.out
      rw [padEnd_more _ _ hlt] at hb15
      obtain ⟨g2, cap2, hv15, _⟩ := hb15.cells
      have hLl2 : (padEnd n (j + 1)).length = 1 + Sm.zeros n + (j + 1) := padEnd_length n (j + 1) (by omega)
      rw [hLl2] at hv15
      have Hb15 := Lib.hid hb15
      clear hb15 hg15
      subst hv15
      go_wp2
      refine ⟨⟨j + 1, by omega, by congr 1; omega, Lib.hid Hb15.out, Lib.hid k15, by omega⟩, by simp only [intOf]; omega⟩
    · obtain rfl : j = 8 := by omega
      have hcv := run_convert_bytes_back (P := Try.prog) wr 38 9 5 ⟨g, 0, none⟩ cap (padEnd n 8) Try.underlying38 Try.underlying5 Try.underlying9 (fun j hj => by rw [Addr.add_lit, Nat.zero_add]; exact Hcell.out j hj)
      rw [hLl] at hcv
      have Hcv := Lib.hid hcv
      clear hcv
      go_wp2_with fail
      rw [Hcv.out]
      go_wp2
      go_ret
      exact ⟨rfl, K1.out.trans (k9.out.mono hwB.out (fun k hk _ => by have := hwB.out; omega))⟩

end Go.Proofs.Ytdhebdahfnilkaa
