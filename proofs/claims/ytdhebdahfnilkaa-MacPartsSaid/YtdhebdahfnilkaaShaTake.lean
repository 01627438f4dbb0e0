/-
  The landed digester takes a text in.
-/
import Derived.Test.YtdhebdahfnilkaaShaMix
import Derived.Test.YtdhebdahfnilkaaShaTaken
namespace Go.Proofs.Ytdhebdahfnilkaa
open Go.RowKit

theorem shaInfoU8 : (Try.prog.info? 5).map (·.size) = some 1 := by kernel_rfl
def strLen : Value → Nat
  | .string s => s.size
  | _ => 0

theorem slice_rest (w : World) (b fl : Nat) (hf : fl < 64) : (Instr.sliceAt 43 (.pointer (some ⟨b, 72, none⟩)) (some (.int .i64 (fl : Int))) none none).run Try.prog w = .ok (.slice (some ⟨b, 72 + fl, none⟩) (64 - fl) (64 - fl)) w := by
  have hA : Try.prog.arrayLen 43 = 64 := by kernel_rfl
  have hE : Try.prog.elem 43 = 5 := by kernel_rfl
  have hu : Try.prog.underlying 43 = some (.array (Try.prog.arrayLen 43) (Try.prog.elem 43)) := by kernel_rfl
  rw [run_sliceAt_array_l w 43 _ hu .i64 _ (by omega) (by rw [hA]; omega), hE, Try.sizeOf5, hA]
  simp only [Result.andThen_ok, slicedAt]
  rw [if_neg (by omega), Addr.add_lit]
  have e1 : ((fl : Int)).toNat = fl := by omega
  rw [e1, Nat.mul_one]

set_option maxRecDepth 100000 in
set_option maxHeartbeats 1600000 in
theorem take_calls (b : Nat) (l : List UInt8) (N : Nat) (s : ByteArray) (w : World) (h : Taken w b l (N : Int)) (hN : Hid (N + s.size < 9223372036854775808)) :
    Calls Try.prog 29 #[.pointer (some ⟨b, 0, none⟩), .string s] w fun e w' => e = .returned (.tuple #[]) ∧ Taken w' b (l ++ s.data.toList) ((N + s.size : Nat) : Int) ∧ Kept w.heap.size b w w' := by
  obtain ⟨blk, hb64, hbt, hD⟩ := h
  have c1 := hD.n (St_length _) hb64
  have f1 := hD.free 137
  have hN' : IntKind.u64.wrap ((N : Int) + IntKind.u64.wrap (s.size : Int)) = ((N + s.size : Nat) : Int) := by
    have := hN.out
    rw [IntKind.wrap_u64, IntKind.wrap_u64]; omega
  have hN2 : ((N : Int) + (s.size : Int)) % 18446744073709551616 = ((N + s.size : Nat) : Int) := by
    have := hN.out
    omega
  obtain ⟨M, hM⟩ : ∃ M, M = N + s.size := ⟨_, rfl⟩
  rw [← hM] at hN' hN2 ⊢
  have hset := hD.set_n (St_length _) hb64 (M : Int)
  have Hset : Hid (Taken (w.setCell ⟨b, 137, none⟩ (.int .u64 (M : Int))) b (l ++ s.data.toList.take 0) (M : Int)) := Lib.hid (by rw [List.take_zero, List.append_nil]; exact ⟨blk, hb64, hbt, hset⟩)
  have Kset : Hid (Kept w.heap.size b w (w.setCell ⟨b, 137, none⟩ (.int .u64 (M : Int)))) := Lib.hid ((Kept.refl _ _ _).set (.inl rfl) _ _)
  have hlt := hD.lt
  clear hset hD hb64 hbt hM hN
  go_enter Try.func29, Try.ntmps29
  go_wp2_with fail
  generalize w.setCell ⟨b, 137, none⟩ (.int .u64 (M : Int)) = w1 at Hset Kset ⊢
  clear c1 f1
  go_loopw [1, 4] (fun tx n9 w9 => ∃ k : Nat, ∃ S : ByteArray, tx = .string S ∧ Hid (S.data.toList = s.data.toList.drop k) ∧ Hid (Taken w9 b (l ++ s.data.toList.take k) (M : Int)) ∧ Hid (Kept w.heap.size b w w9)) (fun tx _ _ => strLen tx)
  case atStart => exact ⟨0, s, rfl, Lib.hid rfl, Hset, Kset⟩
  case round =>
    obtain ⟨k, S, rfl, hS, hT, hK⟩ := hrel
    have hSl : S.data.toList.length = S.size := by simp
    by_cases h0 : 0 < S.size
    · obtain ⟨blk, hb64, hbt, hD⟩ := hT.out
      have htk : S.size = s.data.toList.length - k := by rw [← hSl, hS.out, List.length_drop]
      obtain ⟨L, hL⟩ : ∃ L, L = l ++ s.data.toList.take k := ⟨_, rfl⟩
      rw [← hL] at hbt hD
      obtain ⟨fl, hfl⟩ : ∃ fl, fl = L.length % 64 := ⟨_, rfl⟩
      have hf64 : fl < 64 := by omega
      obtain ⟨n, hn⟩ : ∃ n, n = Nat.min S.size (64 - fl) := ⟨_, rfl⟩
      have hn1 : n ≤ S.size := by rw [hn]; exact Nat.min_le_left _ _
      have hn2 : n ≤ 64 - fl := by rw [hn]; exact Nat.min_le_right _ _
      have hn3 : 0 < n := by rw [hn]; exact Nat.lt_min.2 ⟨h0, by omega⟩
      rw [← hfl] at hbt hD
      have c1 := hD.fl (St_length _) hb64
      have HD := Lib.hid hD
      have Hn := Lib.hid hn
      have Hfl := Lib.hid hfl
      have HL := Lib.hid hL
      have Hbt := Lib.hid hbt
      have Htk := Lib.hid htk
      clear hD hn hfl hL hbt htk hT
      go_wp2_with fail
      refine wp_region_still_tail 9 (by kernel_rfl) (by kernel_rfl) ?_
      simp only [List.take_succ_cons, List.take_zero, List.drop_succ_cons, List.drop_zero]
      generalize hw9 : ({ heap := wr.heap, tape := wr.tape, drawn := wr.drawn + 1, os := wr.os, output := wr.output } : World) = wd
      have c1d : wd.cell? ⟨b, 136, none⟩ = some (.int .i64 (fl : Int)) := by rw [← hw9]; exact c1
      have hDd : Dig wd b (Sm.blocks L (L.length / 64)).list blk (fl : Int) (M : Int) := by rw [← hw9]; exact HD.out
      have kd : Kept w.heap.size b w wd := by rw [← hw9]; exact hK.out.drew
      clear hw9 c1 HD hK
      have hsl := slice_rest wd b fl hf64
      have hxl : (S.data.toList.take n).length = n := by rw [List.length_take, hSl]; omega
      have hlaid := dig_laid (Sm.blocks L (L.length / 64)).list blk (fl : Int) (M : Int) (St_length _) fl (S.data.toList.take n) (by rw [hxl]; omega)
      have hlaidl : (laid blk fl (S.data.toList.take n)).length = 64 := by rw [laid_length _ _ _ (by rw [hxl]; omega)]; exact hb64
      have hdl := dig_length (Sm.blocks L (L.length / 64)).list blk (fl : Int) (M : Int) (St_length _) hb64
      rw [hxl] at hlaid
      have Hlaid := Lib.hid hlaid
      clear hlaid
      repeat still_step
      refine wpStill_nil ?_
      unfold Dig at hDd
      have hfit : 72 + fl + n ≤ (digCells (Sm.blocks L (L.length / 64)).list blk (fl : Int) (M : Int)).toArray.size := by rw [List.size_toArray, hdl]; omega
      have hcp := run_copy_str (P := Try.prog) wd 38 9 3 5 b (72 + fl) (64 - fl) (64 - fl) S _ 59 n Hn.out Try.underlying38 shaInfoU8 hDd hfit
      rw [List.toList_toArray, Hlaid.out] at hcp
      have hDs : Dig (wd.setRow b (digCells (Sm.blocks L (L.length / 64)).list (laid blk fl (S.data.toList.take n)) (fl : Int) (M : Int)).toArray) b (Sm.blocks L (L.length / 64)).list (laid blk fl (S.data.toList.take n)) (fl : Int) (M : Int) := setRow_heap wd b _ _ _ _ hDd
      have ks : Kept w.heap.size b w (wd.setRow b (digCells (Sm.blocks L (L.length / 64)).list (laid blk fl (S.data.toList.take n)) (fl : Int) (M : Int)).toArray) :=
        kd.trans ⟨rfl, rfl, rfl, by simp [World.setRow], fun k _ hk => setRow_other wd b k _ hk⟩
      generalize wd.setRow b (digCells (Sm.blocks L (L.length / 64)).list (laid blk fl (S.data.toList.take n)) (fl : Int) (M : Int)).toArray = w5 at hcp hDs ks
      have Hcp := Lib.hid hcp
      clear hcp hdl hfit
      go_wp2_with fail
      rw [Hcp.out]
      have c5 := hDs.fl (St_length _) hlaidl
      have f5 := hDs.free 136
      have hset := hDs.set_fl (St_length _) hlaidl ((fl + n : Nat) : Int)
      have kset := ks.set (b' := b) (.inl rfl) 136 (.int .i64 ((fl + n : Nat) : Int))
      have hw : IntKind.i64.wrap ((fl : Int) + (n : Int)) = ((fl + n : Nat) : Int) := by rw [IntKind.wrap_i64]; omega
      have Hset5 := Lib.hid hset
      have Kset5 := Lib.hid kset
      clear hset kset hDs ks hDd kd c1d
      have hLx : l ++ s.data.toList.take (k + n) = L ++ S.data.toList.take n := by rw [HL.out, hS.out, List.take_add, List.append_assoc]
      have hext : (S.extract n S.size).data.toList = s.data.toList.drop (k + n) := by
        rw [ByteArray.data_extract, Array.toList_extract, hS.out]
        simp only [List.extract_eq_take_drop]
        rw [List.drop_drop, List.take_of_length_le]
        rw [List.length_drop]
        have := Htk.out
        omega
      have hexs : (S.extract n S.size).size < S.size := by rw [ByteArray.size_extract]; omega
      have HLx := Lib.hid hLx
      have Hext := Lib.hid hext
      have Hexs := Lib.hid hexs
      clear hLx hext hexs
      by_cases hfull : fl + n = 64
      · have hset64 : Dig (w5.setCell ⟨b, 136, none⟩ (.int .i64 64)) b (Sm.blocks L (L.length / 64)).list (laid blk fl (S.data.toList.take n)) 64 (M : Int) := by
          have h := Hset5.out
          rw [hfull] at h
          exact h
        have kset64 : Kept w.heap.size b w (w5.setCell ⟨b, 136, none⟩ (.int .i64 64)) := by
          have h := Kset5.out
          rw [hfull] at h
          exact h
        have HSet64 := Lib.hid hset64
        have HK64 := Lib.hid kset64
        clear hset64 kset64
        go_wp2_with fail
        refine (mix_calls b (Sm.blocks L (L.length / 64)) (laid blk fl (S.data.toList.take n)) 64 (M : Int) _ hlaidl HSet64.out).mono ?_
        rintro e w6 ⟨rfl, hD6, k6⟩
        have c6 := hD6.fl (St_length _) hlaidl
        have f6 := hD6.free 136
        have hset7 := hD6.set_fl (St_length _) hlaidl 0
        have k7 := (HK64.out.trans (k6.mono HK64.out.size (fun _ _ h => h))).set (b' := b) (.inl rfl) 136 (.int .i64 0)
        have hT7 : Taken (w6.setCell ⟨b, 136, none⟩ (.int .i64 0)) b (l ++ s.data.toList.take (k + n)) (M : Int) := by
          have hbt := Hbt.out
          have hfl := Hfl.out
          rw [hfl] at hbt
          obtain ⟨t1, t2, t3, t4⟩ := taken_full L (S.data.toList.take n) blk hb64 hbt (by rw [hxl, ← hfl]; exact hfull)
          rw [HLx.out]
          refine ⟨laid blk fl (S.data.toList.take n), hlaidl, ?_, ?_⟩
          · rw [t2, t3, List.take_zero]
          · rw [t2, t4, ← hfl]
            exact hset7
        have HT7 := Lib.hid hT7
        have HK7 := Lib.hid k7
        clear hset7 hD6 k6 hT7 k7
        go_wp2_with fail
        go_roundw
        case rel => exact ⟨k + n, S.extract n S.size, rfl, Lib.hid Hext.out, Lib.hid HT7.out, Lib.hid HK7.out⟩
        case measure => exact Hexs.out
      · have hT7 : Taken (w5.setCell ⟨b, 136, none⟩ (.int .i64 ((fl + n : Nat) : Int))) b (l ++ s.data.toList.take (k + n)) (M : Int) := by
          have hbt := Hbt.out
          have hfl := Hfl.out
          rw [hfl] at hbt
          obtain ⟨t1, t2, t3, t4⟩ := taken_part L (S.data.toList.take n) blk hb64 hbt (by rw [hxl, ← hfl]; omega)
          rw [HLx.out]
          refine ⟨laid blk fl (S.data.toList.take n), hlaidl, ?_, ?_⟩
          · rw [← t3, hfl]
          · rw [t2, t4, hxl, ← hfl]
            exact Hset5.out
        have HT7 := Lib.hid hT7
        rw [Int.natCast_add] at HT7 Kset5
        clear hT7
        go_wp2_with fail
        refine ⟨⟨k + n, S.extract n S.size, rfl, Lib.hid Hext.out, Lib.hid HT7.out, Lib.hid Kset5.out⟩, Hexs.out⟩
    · go_wp2_with fail
      go_end0
      have htk : s.data.toList.take k = s.data.toList := by
        have h1 : S.data.toList.length = s.data.toList.length - k := by rw [hS.out, List.length_drop]
        exact List.take_of_length_le (by omega)
      have hT' := hT.out
      rw [htk] at hT'
      exact ⟨rfl, hT', hK.out⟩

end Go.Proofs.Ytdhebdahfnilkaa
