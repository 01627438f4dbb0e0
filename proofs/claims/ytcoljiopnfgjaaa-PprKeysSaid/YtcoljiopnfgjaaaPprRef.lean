/-
  The document's own answers of rows: power, Within, down, at, Key.
-/
import Derived.Test.YtcoljiopnfgjaaaGS
import Derived.Test.YtcoljiopnfgjaaaGJ
import Derived.Test.YtcoljiopnfgjaaaGL
import Derived.StillTailTactics

namespace Go.Proofs.Ytcoljiopnfgjaaa
open Go.RowKit Go.Lib

theorem Kept.next1 {w w1 w2 : World} (h : Kept w.heap.size w.heap.size w w1) (k : Kept w1.heap.size w1.heap.size w1 w2) : Kept w.heap.size w.heap.size w w2 :=
  h.trans (k.mono h.size (fun _ hi _ => Nat.ne_of_lt (Nat.lt_of_lt_of_le hi h.size)))
set_option maxRecDepth 100000 in
set_option maxHeartbeats 1600000 in
theorem power_calls (n : Nat) (hn : n ≤ 32) (w : World) : Calls Try.prog 59 #[.int .i64 (n : Int)] w fun e w' => e = .returned (.int .i64 ((2 ^ n : Nat) : Int)) ∧ w' = w := by
  have hn32 : (n : Int) ≤ 32 := by omega
  have HB := Lib.hid (fun i (hi : i ≤ n) => Nat.pow_le_pow_right (n := 2) (by decide) (Nat.le_trans hi hn))
  go_enter Try.func59, Try.ntmps59
  go_wp2
  go_loopw [3, 4] (fun s3 s4 w9 => ∃ i : Nat, s3 = .int .i64 ((2 ^ i : Nat) : Int) ∧ s4 = .int .i64 (i : Int) ∧ Hid (i ≤ n) ∧ w9 = w) (fun _ s4 _ => n - (RowKit.intOf s4).toNat)
  case atStart => exact ⟨0, rfl, rfl, Lib.hid (Nat.zero_le _), rfl⟩
  case round =>
    obtain ⟨i, rfl, rfl, hi, hw⟩ := hrel
    subst wr
    have hb := HB.out i hi.out
    have HP : Hid (2 ^ (i + 1) = 2 * 2 ^ i) := Lib.hid (by rw [Nat.pow_succ]; omega)
    by_cases hc : i < n
    · have hc' : (i : Int) < (n : Int) := by omega
      generalize hk : 2 ^ i = k at hb HP ⊢
      have HC := Lib.hid hc
      have hk4 : (k : Int) ≤ 4294967296 := by omega
      clear hc hk hb
      go_wp2
      go_roundw
      case rel => exact ⟨i + 1, by rw [HP.out]; simp, by simp, Lib.hid HC.out, trivial⟩
      case measure => have := HC.out; simp [RowKit.intOf]; omega
    · have hc' : ¬ (i : Int) < (n : Int) := by omega
      have hin : i = n := by have := hi.out; omega
      have HIN := Lib.hid hin
      clear hin hb hc
      generalize hk : ((2 ^ i : Nat) : Int) = k
      have HK := Lib.hid hk
      clear hk
      go_wp2
      go_ret
      exact ⟨by rw [← HK.out]; simp [HIN.out], rfl⟩

/-- The cells of the document's row. -/
def refRow (l : List UInt8) (bits : Nat) (T : Value) : Array Value := (bcells l ++ [.int .i64 (bits : Int), T]).toArray
theorem refRow_size {l : List UInt8} (h : l.length = 32) (bits : Nat) (T : Value) : (refRow l bits T).size = 34 := by simp [refRow, bcells_length, h]
theorem refRow_bits {w : World} {b : Nat} {t : TypeId} {l : List UInt8} (hl : l.length = 32) {bits : Nat} {T : Value} (h : w.heap[b]? = some (.cells (refRow l bits T) t (0, 0))) : w.cell? ⟨b, 32, none⟩ = some (.int .i64 (bits : Int)) := by
  rw [cell_of_row w b 32 _ _ _ h, refRow]
  simp [bcells_length, hl]

set_option maxRecDepth 100000 in
set_option maxHeartbeats 1600000 in
theorem within_calls (l : List UInt8) (hl : l.length = 32) (bits : Nat) (hb : bits ≤ 32) (T : Value) (p : Int) (w : World) : Calls Try.prog 27 #[.agg (refRow l bits T), .int .i64 p] w fun e w' => e = .returned (.bool (decide (0 ≤ p) && decide (p < ((2 ^ bits : Nat) : Int)))) ∧ Kept w.heap.size w.heap.size w w' := by
  have hcell := fun (w2 : World) (b : Nat) h => refRow_bits (w := w2) (b := b) (t := 60) hl (bits := bits) (T := T) h
  generalize refRow l bits T = RD at hcell ⊢
  have HP := Lib.hid (fun w => power_calls bits hb w)
  have hk0 : Kept w.heap.size w.heap.size w (w.alloc (.cells RD 60)) := (Kept.refl _ _ _).alloc (Nat.le_refl _) _
  have hc0 := hcell _ _ (heap_new w (.cells RD 60))
  have K := Lib.hid hk0
  obtain ⟨N, hN⟩ : ∃ N : Int, N = ((2 ^ bits : Nat) : Int) := ⟨_, rfl⟩
  rw [← hN] at HP ⊢
  clear hk0 hcell hN
  go_enter Try.func27, Try.ntmps27
  go_upto_region 1 with fail
  generalize w.alloc (.cells RD 60) = w1 at K hc0 ⊢
  by_cases h : 0 ≤ p
  · have h' : p ≥ 0 := h
    go_wp2_with (go_at_call 59; refine (HP.out _).mono ?_; rintro e w2 ⟨rfl, hw2⟩; subst w2)
    go_ret
    exact ⟨by simp [h], K.out⟩
  · have h' : ¬ p ≥ 0 := h
    go_wp2_with fail
    go_ret
    exact ⟨by simp; omega, K.out⟩

set_option maxRecDepth 100000 in
set_option maxHeartbeats 3200000 in
theorem refdown_right (k : List UInt8) (hk : k.length = 32) (w : World) : Calls Try.prog 62 #[.agg (bcells k).toArray, .bool true] w fun e w' => e = .returned (.agg (bcells (Sm.sum (Pp.wRight ++ k))).toArray) ∧ Kept w.heap.size w.heap.size w w' := by
  have hsum := fun w => refsum_calls (⟨#[114, 105, 103, 104, 116]⟩ ++ str k) w (by have h : (str k).size = 32 := (str_size k).trans hk; simp [ByteArray.size_append, h]; decide)
  rw [show Sm.sum ((⟨#[114, 105, 103, 104, 116]⟩ ++ str k : ByteArray)).data.toList = Sm.sum (Pp.wRight ++ k) by congr 1] at hsum
  have hml : (Sm.sum (Pp.wRight ++ k)).length = 32 := sum_length _
  generalize Sm.sum (Pp.wRight ++ k) = m at hsum hml ⊢
  obtain ⟨MD, hMD⟩ : ∃ MD, MD = (bcells m).toArray := ⟨_, rfl⟩
  have HMS := Lib.hid (show MD.size = 32 by rw [hMD, List.size_toArray, bcells_length]; exact hml)
  have HMA := Lib.hid (show MD.all (·.oneCell') = true by rw [hMD]; exact bcells_all _)
  have HMI := Lib.hid (show (Try.prog.info? 25).map (·.size) = some MD.size by rw [HMS.out]; kernel_rfl)
  simp only [← hMD] at hsum
  rw [← hMD]
  obtain ⟨sk, hsk⟩ : ∃ sk, sk = str k := ⟨_, rfl⟩
  have HSKS := Lib.hid (show sk.size = 32 by rw [hsk, str_size, hk])
  generalize hkc : (bcells k).toArray = kc
  simp only [← hsk] at hsum
  have HSUM := Lib.hid hsum
  have Hsk := Lib.hid hsk
  have Hkc := Lib.hid hkc
  have HK32 := Lib.hid hk
  have hsk32 := HSKS.out
  clear hsum hml hMD hsk hkc hk
  go_enter Try.func62, Try.ntmps62
  go_upto_region 1 with fail
  rw [zeros32_eq]
  have hP : ((w.alloc (.cells kc 25)).alloc (.cells zeros32 25)).heap[w.heap.size]? = some (.cells kc 25 (0, 0)) := heap_alloc2_old w _ _
  have hR : ((w.alloc (.cells kc 25)).alloc (.cells zeros32 25)).heap[w.heap.size + 1]? = some (.cells zeros32 25 (0, 0)) := heap_alloc2_last w _ _
  have k1 : Kept w.heap.size w.heap.size w ((w.alloc (.cells kc 25)).alloc (.cells zeros32 25)) := ((Kept.refl _ _ _).alloc (Nat.le_refl _) _).alloc (by simp) _
  generalize (w.alloc (.cells kc 25)).alloc (.cells zeros32 25) = w1 at hP hR k1 ⊢
  obtain ⟨wa, hwa⟩ : ∃ wa, wa = w.heap.size := ⟨_, rfl⟩
  rw [← hwa] at hP hR ⊢
  have cA : (convert 45 9 (.slice (some ⟨wa, 0, none⟩) 32 32)).run Try.prog w1 = .ok (.string sk) w1 := by
    rw [Hsk.out]
    exact conv_hash HK32.out (by rw [Hkc.out]; exact hP)
  have HR := Lib.hid hR
  have K1 := Lib.hid k1
  have HWA := Lib.hid hwa
  clear hP hR k1 hwa
  go_upto_region 2 with fail
  refine wp_region_lit ?_
  refine @BigFrame.wpList_want _ _ _ _ _ _ _ ?hw1201 ?_
  case hw1201 => kernel_rfl
  intro K hK
  go_simp
  refine hK _ _ ?_
  clear hK K
  refine @BigFrame.wpList_want _ _ _ _ _ _ _ ?hw1202 ?_
  case hw1202 => kernel_rfl
  intro K hK
  go_simp
  refine hK _ _ ?_
  clear hK K
  refine @BigFrame.wpList_want _ _ _ _ _ _ _ ?hw1203 ?_
  case hw1203 => kernel_rfl
  intro K hK
  go_simp
  refine hK _ _ ?_
  clear hK K
  refine @BigFrame.wpList_want _ _ _ _ _ _ _ ?hw1204 ?_
  case hw1204 => kernel_rfl
  intro K hK
  go_simp
  go_at_call 47
  refine (HSUM.out _).mono ?_
  rintro e w2 ⟨rfl, k2⟩
  refine hK _ _ ?_
  clear hK K
  have R2 := Lib.hid ((k2.block _ (lt_of_block HR.out) (Nat.ne_of_lt (lt_of_block HR.out))).trans HR.out)
  have K2 := Lib.hid (K1.out.next1 k2)
  clear k2
  refine wpList_store_row rfl 25 _ _ rfl (wa + 1) MD rfl rfl 25 zeros32 (R2.out) (HMI.out) (by rw [zeros32_size, HMS.out]) (HMA.out) ?_
  simp only [Act.put]
  have k3 : Kept w.heap.size w.heap.size w (w2.setRow (wa + 1) MD) := K2.out.trans ⟨rfl, rfl, rfl, by simp [World.setRow], fun k hk _ => setRow_other w2 (wa + 1) k MD (by have := HWA.out; omega)⟩
  have r3 := setRow_heap w2 (wa + 1) zeros32 MD _ _ R2.out
  generalize w2.setRow (wa + 1) MD = w3 at k3 r3 ⊢
  go_wp2
  refine bodyPost_ret (results_cell_row rfl _ _ (wa + 1) 25 MD (0, 0) _ rfl r3 Try.underlying25 rfl HMI.out) rfl ?_
  exact ⟨rfl, k3⟩

set_option maxRecDepth 100000 in
set_option maxHeartbeats 3200000 in
theorem refdown_left (k : List UInt8) (hk : k.length = 32) (w : World) : Calls Try.prog 62 #[.agg (bcells k).toArray, .bool false] w fun e w' => e = .returned (.agg (bcells (Sm.sum (Pp.wLeft ++ k))).toArray) ∧ Kept w.heap.size w.heap.size w w' := by
  have hsum := fun w => refsum_calls (⟨#[108, 101, 102, 116]⟩ ++ str k) w (by have h : (str k).size = 32 := (str_size k).trans hk; simp [ByteArray.size_append, h]; decide)
  rw [show Sm.sum ((⟨#[108, 101, 102, 116]⟩ ++ str k : ByteArray)).data.toList = Sm.sum (Pp.wLeft ++ k) by congr 1] at hsum
  have hml : (Sm.sum (Pp.wLeft ++ k)).length = 32 := sum_length _
  generalize Sm.sum (Pp.wLeft ++ k) = m at hsum hml ⊢
  obtain ⟨MD, hMD⟩ : ∃ MD, MD = (bcells m).toArray := ⟨_, rfl⟩
  have HMS := Lib.hid (show MD.size = 32 by rw [hMD, List.size_toArray, bcells_length]; exact hml)
  have HMA := Lib.hid (show MD.all (·.oneCell') = true by rw [hMD]; exact bcells_all _)
  have HMI := Lib.hid (show (Try.prog.info? 25).map (·.size) = some MD.size by rw [HMS.out]; kernel_rfl)
  simp only [← hMD] at hsum
  rw [← hMD]
  obtain ⟨sk, hsk⟩ : ∃ sk, sk = str k := ⟨_, rfl⟩
  have HSKS := Lib.hid (show sk.size = 32 by rw [hsk, str_size, hk])
  generalize hkc : (bcells k).toArray = kc
  simp only [← hsk] at hsum
  have HSUM := Lib.hid hsum
  have Hsk := Lib.hid hsk
  have Hkc := Lib.hid hkc
  have HK32 := Lib.hid hk
  have hsk32 := HSKS.out
  clear hsum hml hMD hsk hkc hk
  go_enter Try.func62, Try.ntmps62
  go_upto_region 1 with fail
  rw [zeros32_eq]
  have hP : ((w.alloc (.cells kc 25)).alloc (.cells zeros32 25)).heap[w.heap.size]? = some (.cells kc 25 (0, 0)) := heap_alloc2_old w _ _
  have hR : ((w.alloc (.cells kc 25)).alloc (.cells zeros32 25)).heap[w.heap.size + 1]? = some (.cells zeros32 25 (0, 0)) := heap_alloc2_last w _ _
  have k1 : Kept w.heap.size w.heap.size w ((w.alloc (.cells kc 25)).alloc (.cells zeros32 25)) := ((Kept.refl _ _ _).alloc (Nat.le_refl _) _).alloc (by simp) _
  generalize (w.alloc (.cells kc 25)).alloc (.cells zeros32 25) = w1 at hP hR k1 ⊢
  obtain ⟨wa, hwa⟩ : ∃ wa, wa = w.heap.size := ⟨_, rfl⟩
  rw [← hwa] at hP hR ⊢
  have cA : (convert 45 9 (.slice (some ⟨wa, 0, none⟩) 32 32)).run Try.prog w1 = .ok (.string sk) w1 := by
    rw [Hsk.out]
    exact conv_hash HK32.out (by rw [Hkc.out]; exact hP)
  have HR := Lib.hid hR
  have K1 := Lib.hid k1
  have HWA := Lib.hid hwa
  clear hP hR k1 hwa
  go_upto_region 3 with fail
  refine wp_region_lit ?_
  refine @BigFrame.wpList_want _ _ _ _ _ _ _ ?hw1205 ?_
  case hw1205 => kernel_rfl
  intro K hK
  go_simp
  refine hK _ _ ?_
  clear hK K
  refine @BigFrame.wpList_want _ _ _ _ _ _ _ ?hw1206 ?_
  case hw1206 => kernel_rfl
  intro K hK
  go_simp
  refine hK _ _ ?_
  clear hK K
  refine @BigFrame.wpList_want _ _ _ _ _ _ _ ?hw1207 ?_
  case hw1207 => kernel_rfl
  intro K hK
  go_simp
  refine hK _ _ ?_
  clear hK K
  refine @BigFrame.wpList_want _ _ _ _ _ _ _ ?hw1208 ?_
  case hw1208 => kernel_rfl
  intro K hK
  go_simp
  go_at_call 47
  refine (HSUM.out _).mono ?_
  rintro e w2 ⟨rfl, k2⟩
  refine hK _ _ ?_
  clear hK K
  have R2 := Lib.hid ((k2.block _ (lt_of_block HR.out) (Nat.ne_of_lt (lt_of_block HR.out))).trans HR.out)
  have K2 := Lib.hid (K1.out.next1 k2)
  clear k2
  refine wpList_store_row rfl 25 _ _ rfl (wa + 1) MD rfl rfl 25 zeros32 (R2.out) (HMI.out) (by rw [zeros32_size, HMS.out]) (HMA.out) ?_
  simp only [Act.put]
  have k3 : Kept w.heap.size w.heap.size w (w2.setRow (wa + 1) MD) := K2.out.trans ⟨rfl, rfl, rfl, by simp [World.setRow], fun k hk _ => setRow_other w2 (wa + 1) k MD (by have := HWA.out; omega)⟩
  have r3 := setRow_heap w2 (wa + 1) zeros32 MD _ _ R2.out
  generalize w2.setRow (wa + 1) MD = w3 at k3 r3 ⊢
  go_wp2
  refine bodyPost_ret (results_cell_row rfl _ _ (wa + 1) 25 MD (0, 0) _ rfl r3 Try.underlying25 rfl HMI.out) rfl ?_
  exact ⟨rfl, k3⟩

/-! ## The seed at a place, as the document goes to it -/
namespace Pp
def path (pl : Nat) : Nat → List UInt8 → List UInt8
  | 0, s => s
  | n + 1, s => path pl n (if pl / 2 ^ n % 2 = 1 then Sm.sum (wRight ++ s) else Sm.sum (wLeft ++ s))
theorem leaf_path (bits pl : Nat) : ∀ (n : Nat) (s : Sd), s.level + n = bits → start bits s ≤ pl → pl < stop bits s → (leaf bits pl n s).self = path pl n s.self
  | 0, _, _, _, _ => rfl
  | n + 1, s, hn, h1, h2 => by
    have hl : s.level < bits := by omega
    have e1 : bits - (s.level + 1) = n := by omega
    have er : start bits (right s) = (2 * s.place + 1) * 2 ^ n := by
      show (2 * s.place + 1) * 2 ^ (bits - (s.level + 1)) = _
      rw [e1]
    have es : start bits s = 2 * s.place * 2 ^ n := by
      rw [← left_start hl]
      show 2 * s.place * 2 ^ (bits - (s.level + 1)) = _
      rw [e1]
    have et : stop bits s = (2 * s.place + 2) * 2 ^ n := by
      rw [← right_stop hl]
      show (2 * s.place + 1 + 1) * 2 ^ (bits - (s.level + 1)) = _
      rw [e1]
    have hpos := Nat.two_pow_pos n
    unfold leaf path
    by_cases hp : pl < start bits (right s)
    · have hq : pl / 2 ^ n = 2 * s.place := by
        apply Nat.div_eq_of_lt_le
        · rw [← es]; exact h1
        · rw [er] at hp; exact hp
      rw [if_pos hp, hq, if_neg (by omega), leaf_path bits pl n _ (show s.level + 1 + n = bits by omega) (by rw [left_start hl]; exact h1) (by rw [left_stop]; exact hp)]
      rfl
    · have hq : pl / 2 ^ n = 2 * s.place + 1 := by
        apply Nat.div_eq_of_lt_le
        · rw [← er]; omega
        · rw [← et]; exact h2
      rw [if_neg hp, hq, if_pos (by omega), leaf_path bits pl n _ (show s.level + 1 + n = bits by omega) (by omega) (by rw [right_stop hl]; exact h2)]
      rfl
theorem path_length (pl : Nat) : ∀ (n : Nat) (s : List UInt8), s.length = 32 → (path pl n s).length = 32
  | 0, _, h => h
  | n + 1, s, _ => by
    unfold path
    exact path_length pl n _ (by split <;> exact sum_length _)
end Pp

end Go.Proofs.Ytcoljiopnfgjaaa
