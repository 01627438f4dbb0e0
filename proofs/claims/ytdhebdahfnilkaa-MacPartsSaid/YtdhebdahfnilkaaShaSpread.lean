/-
  The landed digest's schedule of a block.
-/
import Derived.Test.YtdhebdahfnilkaaShaRight
import Derived.Deep.RegionHeld3
import Derived.Deep.Cut
import Derived.StillTailTactics
namespace Go.Proofs.Ytdhebdahfnilkaa
open Go.RowKit

/-- Four bytes as the model joins them are the word. -/
theorem word_join (l : List UInt8) (i : Nat) (hi : i + 4 ≤ l.length) : bits .or .u32 (bits .or .u32 (bits .or .u32 (((l[i]'(by omega)).toNat : Int) * 16777216) (((l[i + 1]'(by omega)).toNat : Int) * 65536)) (((l[i + 2]'(by omega)).toNat : Int) * 256)) ((l[i + 3]'(by omega)).toNat : Int) = ((Sm.word l i).toNat : Int) := by
  have b0 := (l[i]'(by omega)).toNat_lt
  have b1 := (l[i + 1]'(by omega)).toNat_lt
  have b2 := (l[i + 2]'(by omega)).toNat_lt
  have b3 := (l[i + 3]'(by omega)).toNat_lt
  rw [word_or _ _ _ _ b0 b1 b2 b3, Sm.word, UInt32.toNat_ofNat', Nat.mod_eq_of_lt]
  · simp only [List.getD_eq_getElem?_getD, List.getElem?_eq_getElem (show i < l.length by omega), List.getElem?_eq_getElem (show i + 1 < l.length by omega), List.getElem?_eq_getElem (show i + 2 < l.length by omega), List.getElem?_eq_getElem (show i + 3 < l.length by omega), Option.getD_some]
  · simp only [List.getD_eq_getElem?_getD, List.getElem?_eq_getElem (show i < l.length by omega), List.getElem?_eq_getElem (show i + 1 < l.length by omega), List.getElem?_eq_getElem (show i + 2 < l.length by omega), List.getElem?_eq_getElem (show i + 3 < l.length by omega), Option.getD_some]
    omega

theorem slice_block (w : World) (b q : Nat) (hq : q < 16) : (Instr.sliceAt 43 (.pointer (some ⟨b, 72, none⟩)) (some (.int .i64 (4 * (q : Int)))) (some (.int .i64 (4 * (q : Int) + 4))) none).run Try.prog w = .ok (.slice (some ⟨b, 72 + 4 * q, none⟩) 4 (64 - 4 * q)) w := by
  have hA : Try.prog.arrayLen 43 = 64 := by kernel_rfl
  have hE : Try.prog.elem 43 = 5 := by kernel_rfl
  have hu : Try.prog.underlying 43 = some (.array (Try.prog.arrayLen 43) (Try.prog.elem 43)) := by kernel_rfl
  have hsz : (sizeOf 5).run Try.prog w = .ok 1 w := by
    obtain ⟨i, h1, _, h2, _⟩ := sha_u8
    simp [sizeOf, typeInfo, h1, h2]
  rw [run_sliceAt_array_lh w 43 _ hu .i64 .i64 _ _ (by omega) (by omega) (by rw [hA]; omega), hE, hsz, hA]
  simp only [Result.andThen_ok, slicedAt]
  rw [if_neg (by omega), Addr.add_lit]
  have e1 : (4 * (q : Int)).toNat = 4 * q := by omega
  have e2 : (4 * (q : Int) + 4).toNat - 4 * q = 4 := by omega
  rw [e1, e2, Nat.mul_one]

set_option maxRecDepth 100000 in
set_option maxHeartbeats 1600000 in
theorem spread_calls (b : Nat) (P : List UInt8) (w : World) (hP : P.length = 64) (hb : b < w.heap.size) (hcell : ∀ j (hj : j < P.length), w.cell? ⟨b, 72 + j, none⟩ = some (.int .u8 (P[j]).toNat)) :
    Calls Try.prog 34 #[.pointer (some ⟨b, 0, none⟩)] w fun e w' => e = .returned (.agg (wcells (Sm.sched P 0)).toArray) ∧ Kept w.heap.size w.heap.size w w' := by
  have HC := Lib.hid hcell
  clear hcell
  go_enter Try.func34, Try.ntmps34
  go_wp2_with fail
  rw [zeros64_eq]
  have hA : ((w.alloc (.cells zeros64 51)).alloc (.cells zeros64 51)).heap[w.heap.size]? = some (.cells zeros64 51 (0, 0)) := heap_alloc2_old w _ _
  have hB : ((w.alloc (.cells zeros64 51)).alloc (.cells zeros64 51)).heap[w.heap.size + 1]? = some (.cells (wrow []).toArray 51 (0, 0)) := heap_alloc2_last w _ _
  have hK : Kept w.heap.size w.heap.size w ((w.alloc (.cells zeros64 51)).alloc (.cells zeros64 51)) := ((Kept.refl _ _ _).alloc (Nat.le_refl _) _).alloc (by simp) _
  have s2 : ((w.alloc (.cells zeros64 51)).alloc (.cells zeros64 51)).heap.size = w.heap.size + 2 := by simp
  generalize (w.alloc (.cells zeros64 51)).alloc (.cells zeros64 51) = w2 at hA hB hK s2 ⊢
  obtain ⟨wb, hwb⟩ : ∃ wb, wb = w.heap.size + 1 := ⟨_, rfl⟩
  obtain ⟨wa, hwa⟩ : ∃ wa, wa = w.heap.size := ⟨_, rfl⟩
  have hba : b < wa := by omega
  have hab : wa < wb := by omega
  have hC2 : ∀ j (hj : j < P.length), w2.cell? ⟨b, 72 + j, none⟩ = some (.int .u8 (P[j]).toNat) := fun j hj => (hK.cell (p := ⟨b, 72 + j, none⟩) (by show b < _; omega) (by show b ≠ _; omega)).trans (HC.out j hj)
  rw [← hwb] at hB ⊢
  rw [← hwa] at hA hb hK ⊢
  have HC2 := Lib.hid hC2
  have HK := Lib.hid hK
  have s3 : wb + 1 ≤ w2.heap.size := by omega
  have HWA := Lib.hid hwa
  clear hC2 HC hK s2 hwb hwa
  go_loopw [4, 5, 11] (fun u4 u5 i w9 => ∃ q : Nat, q ≤ 16 ∧ i = .int .i64 (q : Int) ∧ Hid (w9.heap[wb]? = some (.cells (wrow (Sm.first P 0 q)).toArray 51 (0, 0))) ∧ Kept (wb + 1) wb w2 w9 ∧ wb + 1 ≤ w9.heap.size) (fun _ _ i _ => 16 - (intOf i).toNat)
  case atStart => exact ⟨0, by omega, rfl, Lib.hid hB, Kept.refl _ _ _, s3⟩
  case round =>
    obtain ⟨q, hq, rfl, hW, k20, hs20⟩ := hrel
    by_cases hlt2 : q < 16
    · go_wp2_with fail
      rw [slice_block wr b q hlt2]
      go_wp2_with fail
      have c0 : wr.cell? ⟨b, 72 + 4 * q, none⟩ = some (.int .u8 ((P[4 * q]'(by omega)).toNat : Int)) := (k20.cell (p := ⟨b, 72 + 4 * q, none⟩) (by show b < _; omega) (by show b ≠ _; omega)).trans (HC2.out (4 * q) (by omega))
      have c1 : wr.cell? ⟨b, 72 + 4 * q + 1, none⟩ = some (.int .u8 ((P[4 * q + 1]'(by omega)).toNat : Int)) := (k20.cell (p := ⟨b, 72 + (4 * q + 1), none⟩) (by show b < _; omega) (by show b ≠ _; omega)).trans (HC2.out (4 * q + 1) (by omega))
      have c2 : wr.cell? ⟨b, 72 + 4 * q + 2, none⟩ = some (.int .u8 ((P[4 * q + 2]'(by omega)).toNat : Int)) := (k20.cell (p := ⟨b, 72 + (4 * q + 2), none⟩) (by show b < _; omega) (by show b ≠ _; omega)).trans (HC2.out (4 * q + 2) (by omega))
      have c3 : wr.cell? ⟨b, 72 + 4 * q + 3, none⟩ = some (.int .u8 ((P[4 * q + 3]'(by omega)).toNat : Int)) := (k20.cell (p := ⟨b, 72 + (4 * q + 3), none⟩) (by show b < _; omega) (by show b ≠ _; omega)).trans (HC2.out (4 * q + 3) (by omega))
      have hj := word_join P (4 * q) (by omega)
      generalize P[4 * q]'(by omega) = B0 at c0 hj
      generalize P[4 * q + 1]'(by omega) = B1 at c1 hj
      generalize P[4 * q + 2]'(by omega) = B2 at c2 hj
      generalize P[4 * q + 3]'(by omega) = B3 at c3 hj
      have b0 := B0.toNat_lt
      have b1 := B1.toNat_lt
      have b2 := B2.toNat_lt
      have b3 := B3.toNat_lt
      have v0 : IntKind.u32.wrap (B0.toNat : Int) = (B0.toNat : Int) := by rw [IntKind.wrap_u32]; omega
      have v1 : IntKind.u32.wrap (B1.toNat : Int) = (B1.toNat : Int) := by rw [IntKind.wrap_u32]; omega
      have v2 : IntKind.u32.wrap (B2.toNat : Int) = (B2.toNat : Int) := by rw [IntKind.wrap_u32]; omega
      have v3 : IntKind.u32.wrap (B3.toNat : Int) = (B3.toNat : Int) := by rw [IntKind.wrap_u32]; omega
      have u0 : IntKind.u32.wrap ((B0.toNat : Int) * 16777216) = (B0.toNat : Int) * 16777216 := by rw [IntKind.wrap_u32]; omega
      have u1 : IntKind.u32.wrap ((B1.toNat : Int) * 65536) = (B1.toNat : Int) * 65536 := by rw [IntKind.wrap_u32]; omega
      have u2 : IntKind.u32.wrap ((B2.toNat : Int) * 256) = (B2.toNat : Int) * 256 := by rw [IntKind.wrap_u32]; omega
      have q1 : (q : Int) < 64 := by omega
      have Hj := Lib.hid hj
      clear hj
      refine wp_region_still_tail 24 (by kernel_rfl) (by kernel_rfl) ?_
      simp only [List.take_succ_cons, List.take_zero, List.drop_succ_cons, List.drop_zero]
      generalize hw9 : ({ heap := wr.heap, tape := wr.tape, drawn := wr.drawn + 1, os := wr.os, output := wr.output } : World) = wd
      have d0 : wd.cell? ⟨b, 72 + 4 * q, none⟩ = some (.int .u8 (B0.toNat : Int)) := by rw [← hw9]; exact c0
      have d1 : wd.cell? ⟨b, 72 + 4 * q + 1, none⟩ = some (.int .u8 (B1.toNat : Int)) := by rw [← hw9]; exact c1
      have d2 : wd.cell? ⟨b, 72 + 4 * q + 2, none⟩ = some (.int .u8 (B2.toNat : Int)) := by rw [← hw9]; exact c2
      have d3 : wd.cell? ⟨b, 72 + 4 * q + 3, none⟩ = some (.int .u8 (B3.toNat : Int)) := by rw [← hw9]; exact c3
      clear c0 c1 c2 c3
      have hW' : wd.heap[wb]? = some (.cells (wrow (Sm.first P 0 q)).toArray 51 (0, 0)) := by rw [← hw9]; exact hW.out
      have k21 : Kept (wb + 1) wb w2 wd := by rw [← hw9]; exact k20.drew
      have hsd : wb + 1 ≤ wd.heap.size := by rw [← hw9]; exact hs20
      clear hw9 hW k20 hs20
      have hfl := Sm.first_length P 0 q
      have hwl := wrow_length (Sm.first P 0 q) (by omega)
      have cq := cells_at hW' q (by omega)
      have fq := cells_free hW' q
      have hset := cells_set hW' q (w32 (Sm.word P (4 * q)))
      have e1 := wrow_set (Sm.first P 0 q) (Sm.word P (4 * q)) (by omega)
      have e2 : Sm.first P 0 q ++ [Sm.word P (4 * q)] = Sm.first P 0 (q + 1) := by rw [Sm.first, Nat.zero_add]
      rw [hfl, e2] at e1
      rw [e1] at hset
      have Hset := Lib.hid hset
      have k22 := k21.set (b' := wb) (.inl rfl) q (w32 (Sm.word P (4 * q)))
      unfold w32 at k22 Hset
      clear hset e1 e2 hW' k21
      generalize hu : (wrow (Sm.first P 0 q))[q] = u at cq
      clear hu
      repeat still_step
      refine wpStill_nil ?_
      rw [Hj.out]
      go_wp2
      go_roundw
      case rel => exact ⟨q + 1, by omega, by go_num, Lib.hid Hset.out, k22, by simp [World.setCell]; omega⟩
      case measure => simp [intOf]; omega
    · obtain rfl : q = 16 := by omega
      clear hlt2 hq hB
      go_wp2_with fail
      rw [show ((16 : Nat) : Int) = 16 from rfl]
      go_loopw [6, 7, 8, 9, 10] (fun i x y n f w9 => ∃ q : Nat, q ≤ 48 ∧ i = .int .i64 (16 + (q : Int)) ∧ Hid (w9.heap[wb]? = some (.cells (wrow (Sm.exts (Sm.first P 0 16) q)).toArray 51 (0, 0))) ∧ Kept (wb + 1) wb w2 w9 ∧ wb + 1 ≤ w9.heap.size) (fun i _ _ _ _ _ => 64 - (intOf i).toNat)
      case atStart => exact ⟨0, by omega, rfl, hW, k20, hs20⟩
      case round =>
        obtain ⟨q, hq, rfl, hW5, k25, hs25⟩ := hrel
        by_cases hlt3 : q < 48
        · have hfl : (Sm.exts (Sm.first P 0 16) q).length = 16 + q := by rw [Sm.exts_length, Sm.first_length]
          obtain ⟨L, hL⟩ : ∃ L, L = Sm.exts (Sm.first P 0 16) q := ⟨_, rfl⟩
          rw [← hL] at hfl hW5
          have hx : wr.cell? ⟨wb, 16 + q - 15, none⟩ = _ := cells_get hW5.out (wrow_at L (16 + q - 15) (by omega))
          have hy : wr.cell? ⟨wb, 16 + q - 2, none⟩ = _ := cells_get hW5.out (wrow_at L (16 + q - 2) (by omega))
          have h0 := cells_get hW5.out (wrow_at L q (by omega))
          have h7 : wr.cell? ⟨wb, 16 + q - 7, none⟩ = _ := cells_get hW5.out (wrow_at L (16 + q - 7) (by omega))
          have hex : Sm.ext L = L ++ [L.getD q 0 + L.getD (16 + q - 7) 0 + Sm.sig0 (L.getD (16 + q - 15) 0) + Sm.sig1 (L.getD (16 + q - 2) 0)] := by
            rw [Sm.ext, hfl, show 16 + q - 16 = q by omega]
          unfold Sm.sig0 Sm.sig1 at hex
          rw [show 16 + q - 7 = q + 9 by omega] at h7 hex
          have hwl := wrow_length L (by omega)
          have cq := cells_at hW5.out (16 + q) (by omega)
          have fq := cells_free hW5.out (16 + q)
          generalize L.getD (16 + q - 15) 0 = X at hx hex
          generalize L.getD (16 + q - 2) 0 = Y at hy hex
          generalize L.getD q 0 = U at h0 hex
          generalize L.getD (q + 9) 0 = V at h7 hex
          obtain ⟨Z1, hZ1⟩ : ∃ Z, Z = Sm.rotr X 7 ^^^ Sm.rotr X 18 := ⟨_, rfl⟩
          obtain ⟨N, hN⟩ : ∃ Z, Z = Z1 ^^^ Sm.shr X 3 := ⟨_, rfl⟩
          obtain ⟨Z2, hZ2⟩ : ∃ Z, Z = Sm.rotr Y 17 ^^^ Sm.rotr Y 19 := ⟨_, rfl⟩
          obtain ⟨F, hF⟩ : ∃ Z, Z = Z2 ^^^ Sm.shr Y 10 := ⟨_, rfl⟩
          obtain ⟨UV, hUV⟩ : ∃ Z, Z = U + V := ⟨_, rfl⟩
          obtain ⟨UN, hUN⟩ : ∃ Z, Z = UV + N := ⟨_, rfl⟩
          obtain ⟨R, hR⟩ : ∃ Z, Z = UN + F := ⟨_, rfl⟩
          rw [← hZ1, ← hN, ← hZ2, ← hF, ← hUV, ← hUN, ← hR] at hex
          have x1 : bits .xor .u32 ((Sm.rotr X 7).toNat : Int) ((Sm.rotr X 18).toNat : Int) = (Z1.toNat : Int) := by rw [hZ1]; exact w32_xor _ _
          have x2 : (X.toNat : Int) / 8 = ((Sm.shr X 3).toNat : Int) := w32_shr3 X
          have x3 : bits .xor .u32 (Z1.toNat : Int) ((Sm.shr X 3).toNat : Int) = (N.toNat : Int) := by rw [hN]; exact w32_xor _ _
          have y1 : bits .xor .u32 ((Sm.rotr Y 17).toNat : Int) ((Sm.rotr Y 19).toNat : Int) = (Z2.toNat : Int) := by rw [hZ2]; exact w32_xor _ _
          have y2 : (Y.toNat : Int) / 1024 = ((Sm.shr Y 10).toNat : Int) := w32_shr10 Y
          have y3 : bits .xor .u32 (Z2.toNat : Int) ((Sm.shr Y 10).toNat : Int) = (F.toNat : Int) := by rw [hF]; exact w32_xor _ _
          have a1 : IntKind.u32.wrap ((U.toNat : Int) + (V.toNat : Int)) = (UV.toNat : Int) := by rw [IntKind.wrap_u32, hUV]; exact w32_add _ _
          have a2 : IntKind.u32.wrap ((UV.toNat : Int) + (N.toNat : Int)) = (UN.toNat : Int) := by rw [IntKind.wrap_u32, hUN]; exact w32_add _ _
          have a3 : IntKind.u32.wrap ((UN.toNat : Int) + (F.toNat : Int)) = (R.toNat : Int) := by rw [IntKind.wrap_u32, hR]; exact w32_add _ _
          clear hZ1 hN hZ2 hF hUV hUN hR
          have e1 := wrow_set L R (by omega)
          rw [hfl, ← hex, hL, ← Sm.exts] at e1
          rw [← hL] at e1
          have He := Lib.hid e1
          unfold w32 at hx hy h0 h7 He
          clear hL hex e1 cq fq
          go_wp2_with fail
          go_quiet (fail)
          go_wp2_with fail
          refine (right7 X _).mono ?_
          rintro e w' ⟨rfl, rfl⟩
          go_wp2_with fail
          refine (right18 X _).mono ?_
          rintro e w' ⟨rfl, rfl⟩
          go_wp2_with fail
          refine (right17 Y _).mono ?_
          rintro e w' ⟨rfl, rfl⟩
          go_wp2_with fail
          refine (right19 Y _).mono ?_
          rintro e w' ⟨rfl, rfl⟩
          go_wp2_with fail
          have e16 : IntKind.i64.wrap (16 + (q : Int) - 16) = (q : Int) := by rw [IntKind.wrap_i64]; omega
          have e7 : IntKind.i64.wrap (16 + (q : Int) - 7) = (q : Int) + 9 := by rw [IntKind.wrap_i64]; omega
          have q1 : (q : Int) < 64 := by omega
          have q2 : (0 : Int) ≤ (q : Int) + 9 := by omega
          have q3 : (q : Int) + 9 < 64 := by omega
          have q4 : ((q : Int) + 9).toNat = q + 9 := by omega
          have q5 : (16 : Int) + (q : Int) < 64 := by omega
          have q6 : (0 : Int) ≤ 16 + (q : Int) := by omega
          have q7 : ((16 : Int) + (q : Int)).toNat = 16 + q := by omega
          refine wp_region_still_tail 15 (by kernel_rfl) (by kernel_rfl) ?_
          simp only [List.take_succ_cons, List.take_zero, List.drop_succ_cons, List.drop_zero]
          generalize hw9 : ({ heap := (wr.drewN nq).heap, tape := (wr.drewN nq).tape, drawn := (wr.drewN nq).drawn + 1, os := (wr.drewN nq).os, output := (wr.drewN nq).output } : World) = wd
          have h0d : wd.cell? ⟨wb, q, none⟩ = some (.int .u32 (U.toNat : Int)) := by rw [← hw9]; exact h0
          have h7d : wd.cell? ⟨wb, q + 9, none⟩ = some (.int .u32 (V.toNat : Int)) := by rw [← hw9]; exact h7
          have hWd : wd.heap[wb]? = some (.cells (wrow L).toArray 51 (0, 0)) := by rw [← hw9]; exact hW5.out
          have kd : Kept (wb + 1) wb w2 wd := by rw [← hw9]; exact (k25.drewN nq).drew
          have hsd : wb + 1 ≤ wd.heap.size := by rw [← hw9]; exact hs25
          clear hw9 h0 h7 hx hy
          have cq := cells_at hWd (16 + q) (by omega)
          have fq := cells_free hWd (16 + q)
          have hset := cells_set hWd (16 + q) (.int .u32 (R.toNat : Int))
          rw [He.out] at hset
          have Hset := Lib.hid hset
          have kset := kd.set (b' := wb) (.inl rfl) (16 + q) (.int .u32 (R.toNat : Int))
          generalize hu : (wrow L)[16 + q] = u at cq
          clear hu hset hWd
          repeat still_step
          refine wpStill_nil ?_
          go_wp2
          go_roundw
          case rel => exact ⟨q + 1, by omega, by go_num, Lib.hid Hset.out, kset, by simp [World.setCell]; omega⟩
          case measure => simp [intOf]; omega
        · obtain rfl : q = 48 := by omega
          have hr : Sm.exts (Sm.first P 0 16) 48 = Sm.sched P 0 := rfl
          rw [hr] at hW5
          have hsl : wrow (Sm.sched P 0) = wcells (Sm.sched P 0) := by rw [wrow, Sm.sched_length]; simp
          rw [hsl] at hW5
          have hB5 := hW5.out
          have hA5 := (k25.block wa (by omega) (by omega)).trans hA
          have hK5 := HK.out.trans (k25.mono (base' := wa) (b' := wa) (by omega) (fun k hk _ => by omega))
          have hsz : (wcells (Sm.sched P 0)).toArray.size = 64 := by simp [wcells_length, Sm.sched_length]
          have hall : (wcells (Sm.sched P 0)).toArray.all (·.oneCell') = true := wcells_all _
          have hz64 : zeros64.size = 64 := rfl
          generalize hcs : (wcells (Sm.sched P 0)).toArray = cs at hB5 hsz hall
          have Hcs := Lib.hid hcs.symm
          clear hcs
          generalize zeros64 = z at hA5 hz64 ⊢
          clear hW5 hA hr hsl
          go_wp2_with (first | (with_reducible refine wpList_load_row rfl 51 _ rfl wb rfl 51 cs (0, 0) _ hB5 Try.underlying51 rfl (by rw [shaInfo40, hsz]) ?_) | (with_reducible refine wpList_store_row rfl 51 _ _ rfl wa cs rfl rfl 51 _ hA5 (by rw [shaInfo40, hsz]) (by rw [hz64, hsz]) hall ?_))
          obtain ⟨t1, t2⟩ : Kept wa wa w (wr.setRow wa cs) ∧ (wr.setRow wa cs).heap[wa]? = some (.cells cs 51 (0, 0)) :=
            ⟨hK5.trans ⟨rfl, rfl, rfl, by simp [World.setRow], fun k hk _ => setRow_other wr wa k cs (by omega)⟩, setRow_heap wr wa z cs _ _ hA5⟩
          refine bodyPost_ret (results_cell_row rfl _ _ wa 51 cs (0, 0) _ rfl t2 Try.underlying51 rfl (by rw [shaInfo40, hsz])) rfl ?_
          refine ⟨?_, ?_⟩
          · rw [Hcs.out]
          · rw [← HWA.out]
            exact t1

end Go.Proofs.Ytdhebdahfnilkaa
