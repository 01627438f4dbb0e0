/-
  The walk of the statement ShaDigits: digests are told by their signs, and read back from these alone.
-/
import Derived.Test.YtabccononnkflaaShaUnAll
import Derived.Test.YtabccononnkflaaShaAwake
import Derived.Test.YtabccononnkflaaShaRefHex
import Derived.Test.YtabccononnkflaaQuietLoad
import Derived.Stop.BytesEq
import Derived.Deep.Cut
namespace Go.Proofs.Ytabccononnkflaa
open Go.RowKit Go.Lib

theorem digGuard25 : Try.prog.eqGuardType Try.prog.depth 25 = false := by kernel_rfl
theorem dig_equalIn (w : World) (xs : List UInt8) (hx : xs.length = 32) : (Op.equalIn 10000 25 (.agg (bcells xs).toArray) (.agg (bcells xs).toArray)).run Try.prog w = .ok true w := by
  have := run_equalIn_bytes (P := Try.prog) w 9998 25 5 32 Try.underlying25 Try.underlying5 (fun w => Try.sizeOf5 w) xs xs hx hx
  rw [beq_self_eq_true] at this
  exact this

set_option maxRecDepth 100000 in
set_option maxHeartbeats 3200000 in
theorem shadigits_walk (l : List UInt8) (hl : l.length = 32) (s : ByteArray) (w : World) :
    Calls Try.prog 4 #[.agg (bcells l).toArray, .string s] w fun e w' => e = .returned (.bool true) ∧ Kept w.heap.size w.heap.size w w' := by
  have hcs : (bcells l).toArray.size = 32 := by rw [List.size_toArray, bcells_length, hl]
  have hall := bcells_all l
  have h1 := fun w => hex_calls l hl w
  have h2 := fun w => refhex_calls l hl w
  have h3 := fun w => unhex_hex l hl w
  have heq := fun w => dig_equalIn w l hl
  have gd := digGuard25
  generalize (bcells l).toArray = cs at hcs hall h1 h2 h3 heq ⊢
  generalize str (Sm.hex l) = hx at h1 h2 h3
  have H1 := Lib.hid h1
  have H2 := Lib.hid h2
  have H3 := Lib.hid h3
  have hi : (Try.prog.info? 25).map (·.size) = some cs.size := by rw [shaInfo30, hcs]
  have HI := Lib.hid hi
  have HCS := Lib.hid hcs
  have HAL := Lib.hid hall
  clear h1 h2 h3 hi hcs hall
  go_enter Try.func4, Try.ntmps4
  go_upto_region 1 with fail
  have hA : (w.alloc (.cells cs 25)).heap[w.heap.size]? = some (.cells cs 25 (0, 0)) := heap_new _ _
  have k1 : Kept w.heap.size w.heap.size w (w.alloc (.cells cs 25)) := (Kept.refl _ _ _).alloc (Nat.le_refl _) _
  have s1 : (w.alloc (.cells cs 25)).heap.size = w.heap.size + 1 := by simp
  generalize w.alloc (.cells cs 25) = w1 at hA k1 s1 ⊢
  obtain ⟨wa, hwa⟩ : ∃ wa, wa = w.heap.size := ⟨_, rfl⟩
  rw [← hwa] at hA k1 s1 ⊢
  have HA : Hid (∀ w', Kept w1.heap.size w1.heap.size w1 w' → w'.heap[wa]? = some (.cells cs 25 (0, 0))) := Lib.hid fun w' k => (k.block wa (by omega) (by omega)).trans hA
  have HK := Lib.hid k1
  have HS1 := Lib.hid s1
  have HWA := Lib.hid hwa
  have kk : Kept w1.heap.size w1.heap.size w1 w1 := Kept.refl _ _ _
  clear hA k1 hwa s1
  go_wp2_with (with_reducible refine wpList_load_row_g (by with_unfolding_all rfl) 25 _ rfl wa rfl 25 cs (0, 0) _ (HA.out _ kk) Try.underlying25 rfl HI.out ?_)
  refine (H1.out _).mono ?_
  rintro e w2 ⟨rfl, k2⟩
  have kk := kk.trans (k2.mono kk.size (fun k hk _ => by have := kk.size; omega))
  go_wp2_with (with_reducible refine wpList_load_row_g (by with_unfolding_all rfl) 25 _ rfl wa rfl 25 cs (0, 0) _ (HA.out _ kk) Try.underlying25 rfl HI.out ?_)
  refine (H3.out _).mono ?_
  rintro e w3 ⟨rfl, k3⟩
  have kk := kk.trans (k3.mono kk.size (fun k hk _ => by have := kk.size; omega))
  go_wp2_with (with_reducible refine wpList_load_row_g (by with_unfolding_all rfl) 25 _ rfl wa rfl 25 cs (0, 0) _ (HA.out _ kk) Try.underlying25 rfl HI.out ?_)
  rw [store_new w3 25 _ cs (by rw [HCS.out]; rfl) HAL.out]
  have kk4 := kk.alloc kk.size (.cells cs 25)
  have hB4 : (w3.alloc (.cells cs 25)).heap[w3.heap.size]? = some (.cells cs 25 (0, 0)) := heap_new _ _
  have s4 : (w3.alloc (.cells cs 25)).heap.size = w3.heap.size + 1 := by simp
  have hw3 := kk.size
  generalize w3.alloc (.cells cs 25) = w4 at kk4 hB4 s4 ⊢
  obtain ⟨wb, hwb⟩ : ∃ wb, wb = w3.heap.size := ⟨_, rfl⟩
  rw [← hwb] at hB4 s4 hw3 ⊢
  have hw1 := HS1.out
  have HA : Hid (∀ w', Kept w4.heap.size w4.heap.size w4 w' → w'.heap[wa]? = some (.cells cs 25 (0, 0))) := Lib.hid fun w' k => (k.block wa (by omega) (by omega)).trans (HA.out _ kk4)
  have HB : Hid (∀ w', Kept w4.heap.size w4.heap.size w4 w' → w'.heap[wb]? = some (.cells cs 25 (0, 0))) := Lib.hid fun w' k => (k.block wb (by omega) (by omega)).trans hB4
  have HK : Hid (Kept wa wa w w4) := Lib.hid (HK.out.trans (kk4.mono (by omega) (fun k hk _ => by omega)))
  have HS4 : Hid (wa < w4.heap.size) := Lib.hid (by omega)
  have kk : Kept w4.heap.size w4.heap.size w4 w4 := Kept.refl _ _ _
  clear kk4 hB4 s4 hw3 hwb hw1 HS1
  go_wp2_with (first | (with_reducible refine wpList_load_row_g (by with_unfolding_all rfl) 25 _ rfl wa rfl 25 cs (0, 0) _ (HA.out _ kk) Try.underlying25 rfl HI.out ?_) | (with_reducible refine wpList_load_row_g (by with_unfolding_all rfl) 25 _ rfl wb rfl 25 cs (0, 0) _ (HB.out _ kk) Try.underlying25 rfl HI.out ?_))
  refine (awake_calls _).mono ?_
  rintro e w5 ⟨rfl, k5⟩
  have kk := kk.trans (k5.mono kk.size (fun k hk _ => by have := kk.size; omega))
  go_wp2_with (first | (with_reducible refine wpList_load_row_g (by with_unfolding_all rfl) 25 _ rfl wa rfl 25 cs (0, 0) _ (HA.out _ kk) Try.underlying25 rfl HI.out ?_) | (with_reducible refine wpList_load_row_g (by with_unfolding_all rfl) 25 _ rfl wb rfl 25 cs (0, 0) _ (HB.out _ kk) Try.underlying25 rfl HI.out ?_))
  refine (H2.out _).mono ?_
  rintro e w6 ⟨rfl, k6⟩
  have kk := kk.trans (k6.mono kk.size (fun k hk _ => by have := kk.size; omega))
  go_wp2_with (first | (with_reducible refine wpList_load_row_g (by with_unfolding_all rfl) 25 _ rfl wa rfl 25 cs (0, 0) _ (HA.out _ kk) Try.underlying25 rfl HI.out ?_) | (with_reducible refine wpList_load_row_g (by with_unfolding_all rfl) 25 _ rfl wb rfl 25 cs (0, 0) _ (HB.out _ kk) Try.underlying25 rfl HI.out ?_))
  refine (unhex_calls s w6).mono ?_
  rintro e w7 ⟨hp, k7⟩
  have kk := kk.trans (k7.mono kk.size (fun k hk _ => by have := kk.size; omega))
  clear heq H1 H2 H3 HI HCS HAL
  rcases hp with ⟨h64, hall, h, hlen, hhex, rfl⟩ | ⟨hbad, rfl⟩
  · have h5 := fun w => refhex_calls h hlen w
    rw [hhex, str_of] at h5
    have hcs : (bcells h).toArray.size = 32 := by rw [List.size_toArray, bcells_length, hlen]
    have hal := bcells_all h
    generalize (bcells h).toArray = ch at hcs hal h5 ⊢
    have hi : (Try.prog.info? 25).map (·.size) = some ch.size := by rw [shaInfo30, hcs]
    have HI := Lib.hid hi
    have HC2 := Lib.hid hcs
    have HL2 := Lib.hid hal
    have H5 := Lib.hid h5
    clear hi hcs hal h5 hall hhex h64
    go_wp2_with fail
    rw [store_new w7 25 _ ch (by rw [HC2.out]; rfl) HL2.out]
    have kk4 := kk.alloc kk.size (.cells ch 25)
    have hB4 : (w7.alloc (.cells ch 25)).heap[w7.heap.size]? = some (.cells ch 25 (0, 0)) := heap_new _ _
    have s4 : (w7.alloc (.cells ch 25)).heap.size = w7.heap.size + 1 := by simp
    have hw3 := kk.size
    generalize w7.alloc (.cells ch 25) = w8 at kk4 hB4 s4 ⊢
    obtain ⟨wc, hwc⟩ : ∃ wc, wc = w7.heap.size := ⟨_, rfl⟩
    rw [← hwc] at hB4 s4 hw3 ⊢
    have hw1 := HS4.out
    have HC : Hid (∀ w', Kept w8.heap.size w8.heap.size w8 w' → w'.heap[wc]? = some (.cells ch 25 (0, 0))) := Lib.hid fun w' k => (k.block wc (by omega) (by omega)).trans hB4
    have HK : Hid (Kept wa wa w w8) := Lib.hid (HK.out.trans (kk4.mono (by omega) (fun k hk _ => by omega)))
    have HS8 : Hid (wa < w8.heap.size) := Lib.hid (by omega)
    have kk : Kept w8.heap.size w8.heap.size w8 w8 := Kept.refl _ _ _
    clear kk4 hB4 s4 hw3 hwc hw1 HS4 HA HB
    go_wp2_with (with_reducible refine wpList_load_row_g (by with_unfolding_all rfl) 25 _ rfl wc rfl 25 ch (0, 0) _ (HC.out _ kk) Try.underlying25 rfl HI.out ?_)
    refine (H5.out _).mono ?_
    rintro e w9 ⟨rfl, k9⟩
    have kk := kk.trans (k9.mono kk.size (fun k hk _ => by have := kk.size; omega))
    go_wp2
    go_ret
    exact ⟨rfl, by rw [← HWA.out]; exact HK.out.trans (kk.mono (by have := HS8.out; omega) (fun k hk _ => by have := HS8.out; omega))⟩
  · have heq := fun w => dig_equalIn w (List.replicate 32 0) rfl
    rw [show (bcells (List.replicate 32 0)).toArray = zeros32 from rfl] at heq
    obtain ⟨cz, hcz⟩ : ∃ cz, cz = zeros32 := ⟨_, rfl⟩
    have hcs : cz.size = 32 := by rw [hcz]; exact zeros32_size
    have hal : cz.all (·.oneCell') = true := by rw [hcz]; exact zeros32_all
    rw [← hcz] at heq ⊢
    have hi : (Try.prog.info? 25).map (·.size) = some cz.size := by rw [shaInfo30, hcs]
    have HI := Lib.hid hi
    have HC2 := Lib.hid hcs
    have HL2 := Lib.hid hal
    have HCZ := Lib.hid hcz
    clear hi hcs hal hcz
    by_cases h64 : s.size = 64
    · have hd : ((s.size : Int) != 64) = false := by rw [bne_eq_false_iff_eq]; omega
      have hf : s.data.toList.all isSign = false := by
        rcases hbad with h | h
        · exact absurd h64 h
        · exact h
      have h6 := fun w => odd_calls s h64 w
      rw [hf] at h6
      have H6 := Lib.hid h6
      clear hf h6 hbad h64
      go_wp2_with fail
      rw [store_new w7 25 _ cz (by rw [HC2.out]; rfl) HL2.out]
      have kk4 := kk.alloc kk.size (.cells cz 25)
      have hB4 : (w7.alloc (.cells cz 25)).heap[w7.heap.size]? = some (.cells cz 25 (0, 0)) := heap_new _ _
      have s4 : (w7.alloc (.cells cz 25)).heap.size = w7.heap.size + 1 := by simp
      have hw3 := kk.size
      generalize w7.alloc (.cells cz 25) = w8 at kk4 hB4 s4 ⊢
      obtain ⟨wc, hwc⟩ : ∃ wc, wc = w7.heap.size := ⟨_, rfl⟩
      rw [← hwc] at hB4 s4 hw3 ⊢
      have hw1 := HS4.out
      have HC : Hid (∀ w', Kept w8.heap.size w8.heap.size w8 w' → w'.heap[wc]? = some (.cells cz 25 (0, 0))) := Lib.hid fun w' k => (k.block wc (by omega) (by omega)).trans hB4
      have HK : Hid (Kept wa wa w w8) := Lib.hid (HK.out.trans (kk4.mono (by omega) (fun k hk _ => by omega)))
      have HS8 : Hid (wa < w8.heap.size) := Lib.hid (by omega)
      have kk : Kept w8.heap.size w8.heap.size w8 w8 := Kept.refl _ _ _
      clear kk4 hB4 s4 hw3 hwc hw1 HS4 HA HB
      go_wp2_with (first | (with_reducible refine wpList_load_row_g (by with_unfolding_all rfl) 25 _ rfl wc rfl 25 cz (0, 0) _ (HC.out _ kk) Try.underlying25 rfl HI.out ?_) | (refine wpList_build rfl 25 _ rfl (by kernel_rfl) ?_; generalize hb8 : Option.getD (Program.built _ _ _) _ = kc8; (have hkc : kc8 = zeros32 := hb8.symm.trans (by kernel_rfl)); rw [← HCZ.out] at hkc; clear hb8; subst hkc))
      refine (H6.out _).mono ?_
      rintro e w9 ⟨rfl, k9⟩
      have kk := kk.trans (k9.mono kk.size (fun k hk _ => by have := kk.size; omega))
      go_wp2
      go_ret
      exact ⟨rfl, by rw [← HWA.out]; exact HK.out.trans (kk.mono (by have := HS8.out; omega) (fun k hk _ => by have := HS8.out; omega))⟩
    · have hd : ((s.size : Int) != 64) = true := by rw [bne_iff_ne]; omega
      clear hbad
      go_wp2_with fail
      rw [store_new w7 25 _ cz (by rw [HC2.out]; rfl) HL2.out]
      have kk4 := kk.alloc kk.size (.cells cz 25)
      have hB4 : (w7.alloc (.cells cz 25)).heap[w7.heap.size]? = some (.cells cz 25 (0, 0)) := heap_new _ _
      have s4 : (w7.alloc (.cells cz 25)).heap.size = w7.heap.size + 1 := by simp
      have hw3 := kk.size
      generalize w7.alloc (.cells cz 25) = w8 at kk4 hB4 s4 ⊢
      obtain ⟨wc, hwc⟩ : ∃ wc, wc = w7.heap.size := ⟨_, rfl⟩
      rw [← hwc] at hB4 s4 hw3 ⊢
      have hw1 := HS4.out
      have HC : Hid (∀ w', Kept w8.heap.size w8.heap.size w8 w' → w'.heap[wc]? = some (.cells cz 25 (0, 0))) := Lib.hid fun w' k => (k.block wc (by omega) (by omega)).trans hB4
      have HK : Hid (Kept wa wa w w8) := Lib.hid (HK.out.trans (kk4.mono (by omega) (fun k hk _ => by omega)))
      have HS8 : Hid (wa < w8.heap.size) := Lib.hid (by omega)
      have kk : Kept w8.heap.size w8.heap.size w8 w8 := Kept.refl _ _ _
      clear kk4 hB4 s4 hw3 hwc hw1 HS4 HA HB
      go_wp2_with (first | (with_reducible refine wpList_load_row_g (by with_unfolding_all rfl) 25 _ rfl wc rfl 25 cz (0, 0) _ (HC.out _ kk) Try.underlying25 rfl HI.out ?_) | (refine wpList_build rfl 25 _ rfl (by kernel_rfl) ?_; generalize hb8 : Option.getD (Program.built _ _ _) _ = kc8; (have hkc : kc8 = zeros32 := hb8.symm.trans (by kernel_rfl)); rw [← HCZ.out] at hkc; clear hb8; subst hkc))
      go_ret
      exact ⟨rfl, by rw [← HWA.out]; exact HK.out.trans (kk.mono (by have := HS8.out; omega) (fun k hk _ => by have := HS8.out; omega))⟩
end Go.Proofs.Ytabccononnkflaa
