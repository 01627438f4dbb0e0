/-
  The landed digester's words as bytes.
-/
import Derived.Test.YtdhebdahfnilkaaShaDig
import Derived.Deep.MidRow
import Derived.Deep.Cut
namespace Go.Proofs.Ytdhebdahfnilkaa
open Go.RowKit

theorem shaInfo30 : (Try.prog.info? 25).map (·.size) = some 32 := by kernel_rfl
/-- Bytes laid first, zeros behind. -/
def brow (l : List UInt8) : List Value := bcells l ++ List.replicate (32 - l.length) (Value.int .u8 0)
theorem brow_length (l : List UInt8) (h : l.length ≤ 32) : (brow l).length = 32 := by rw [brow, List.length_append, bcells_length, List.length_replicate]; omega
theorem brow_set (l : List UInt8) (x : UInt8) (h : l.length < 32) : (brow l).set l.length (.int .u8 (x.toNat : Int)) = brow (l ++ [x]) := by
  unfold brow
  have e : 32 - l.length = (32 - (l ++ [x]).length) + 1 := by rw [List.length_append, List.length_singleton]; omega
  rw [List.set_append_right _ _ (by rw [bcells_length]; exact Nat.le_refl _), bcells_length, Nat.sub_self, e, List.replicate_succ, List.set_cons_zero]
  simp [bcells]
theorem brow_nil : zeros32 = (brow []).toArray := rfl
theorem brow_all (l : List UInt8) (h : l.length = 32) : brow l = bcells l := by rw [brow, h]; simp
/-- So many words as bytes. -/
def wbytes (l : List UInt32) (q : Nat) : List UInt8 := (l.take q).flatMap Sm.bytes4
theorem bytes4_length (x : UInt32) : (Sm.bytes4 x).length = 4 := by simp [Sm.bytes4]
theorem bytes4_eq (x : UInt32) : Sm.bytes4 x = [UInt8.ofNat (x.toNat / 16777216), UInt8.ofNat (x.toNat / 65536), UInt8.ofNat (x.toNat / 256), UInt8.ofNat x.toNat] := by
  simp [Sm.bytes4, List.range, List.range.loop]
theorem wbytes_more (l : List UInt32) (q : Nat) (h : q < l.length) : wbytes l (q + 1) = wbytes l q ++ Sm.bytes4 (l.getD q 0) := by
  rw [wbytes, wbytes, List.take_succ_eq_append_getElem h, List.flatMap_append]
  congr 1
  simp [List.getD_eq_getElem?_getD, h]
theorem wbytes_length (l : List UInt32) : ∀ q, q ≤ l.length → (wbytes l q).length = 4 * q
  | 0, _ => by simp [wbytes]
  | q + 1, h => by
    rw [wbytes_more l q (by omega), List.length_append, wbytes_length l q (by omega), bytes4_length]
    omega
theorem brow_set4 (l : List UInt8) (q : Nat) (a b c d : UInt8) (h : l.length = 4 * q) (hq : q < 8) : ((((brow l).set (4 * q) (.int .u8 (a.toNat : Int))).set (4 * q + 1) (.int .u8 (b.toNat : Int))).set (4 * q + 2) (.int .u8 (c.toNat : Int))).set (4 * q + 3) (.int .u8 (d.toNat : Int)) = brow (l ++ [a, b, c, d]) := by
  have e0 := brow_set l a (by omega)
  have e1 := brow_set (l ++ [a]) b (by rw [List.length_append, List.length_singleton]; omega)
  have e2 := brow_set (l ++ [a] ++ [b]) c (by simp only [List.length_append, List.length_singleton]; omega)
  have e3 := brow_set (l ++ [a] ++ [b] ++ [c]) d (by simp only [List.length_append, List.length_singleton]; omega)
  simp only [List.length_append, List.length_singleton, h] at e0 e1 e2 e3
  rw [e0, e1, show 4 * q + 2 = 4 * q + 1 + 1 from rfl, e2, show 4 * q + 3 = 4 * q + 1 + 1 + 1 from rfl, e3]
  simp only [List.append_assoc, List.cons_append, List.nil_append]
theorem ofNat_byte (x : Nat) : ((x : Int) % 256) = (((UInt8.ofNat x).toNat : Nat) : Int) := by rw [UInt8.toNat_ofNat']; rfl

set_option maxRecDepth 100000 in
set_option maxHeartbeats 1600000 in
theorem hash_calls (b : Nat) (v : Sm.St) (P : List UInt8) (fl n : Int) (w : World) (_hP : P.length = 64) (h : Dig w b v.list P fl n) :
    Calls Try.prog 31 #[.pointer (some ⟨b, 0, none⟩)] w fun e w' => e = .returned (.agg (bcells (v.list.flatMap Sm.bytes4)).toArray) ∧ Kept w.heap.size w.heap.size w w' := by
  have hb := h.lt
  go_enter Try.func31, Try.ntmps31
  go_upto_region 2 with fail
  rw [zeros32_eq]
  have hA : ((w.alloc (.cells zeros32 25)).alloc (.cells zeros32 25)).heap[w.heap.size]? = some (.cells zeros32 25 (0, 0)) := heap_alloc2_old w _ _
  have hB : ((w.alloc (.cells zeros32 25)).alloc (.cells zeros32 25)).heap[w.heap.size + 1]? = some (.cells (brow []).toArray 25 (0, 0)) := heap_alloc2_last w _ _
  have hK : Kept w.heap.size w.heap.size w ((w.alloc (.cells zeros32 25)).alloc (.cells zeros32 25)) := ((Kept.refl _ _ _).alloc (Nat.le_refl _) _).alloc (by simp) _
  have s2 : ((w.alloc (.cells zeros32 25)).alloc (.cells zeros32 25)).heap.size = w.heap.size + 2 := by simp
  generalize (w.alloc (.cells zeros32 25)).alloc (.cells zeros32 25) = w2 at hA hB hK s2 ⊢
  have hD := h.same (hK.block b hb (by omega))
  clear h
  obtain ⟨S, hS⟩ : ∃ S, S = v.list := ⟨_, rfl⟩
  have hSl : S.length = 8 := by rw [hS]; rfl
  rw [← hS] at hD
  have hr : w2.rangeAt b 0 (wcells S) := fun j x hj => by
    rw [Nat.zero_add]
    have hj8 : j < S.length := by
      have := (List.getElem?_eq_some_iff.1 hj).1
      rwa [wcells_length] at this
    rw [wcells_at S j hj8] at hj
    cases hj
    exact hD.state hSl j (by omega)
  have hcl : (wcells S).length = 8 := by rw [wcells_length, hSl]
  have HS := Lib.hid hS
  clear hS
  go_wp2_with (with_reducible refine wpList_load_mid rfl 53 _ rfl b 0 rfl (wcells S) _ hr Try.underlying53 rfl (by rw [shaInfo44, hcl]) ?_)
  obtain ⟨wb, hwb⟩ : ∃ wb, wb = w.heap.size + 1 := ⟨_, rfl⟩
  obtain ⟨wa, hwa⟩ : ∃ wa, wa = w.heap.size := ⟨_, rfl⟩
  have hba : b < wa := by omega
  have hab : wa < wb := by omega
  rw [← hwb] at hB ⊢
  rw [← hwa] at hA hK ⊢
  have HK := Lib.hid hK
  have HWA := Lib.hid hwa
  have s3 : wb + 1 ≤ w2.heap.size := by omega
  clear hK hwa hwb s2 hr hD hb
  go_wp2_with fail
  go_loopw [4, 5, 10] (fun i4 x5 j w9 => ∃ q : Nat, q ≤ 8 ∧ j = .int .i64 (q : Int) ∧ Hid (w9.heap[wb]? = some (.cells (brow (wbytes S q)).toArray 25 (0, 0))) ∧ Kept (wb + 1) wb w2 w9 ∧ wb + 1 ≤ w9.heap.size) (fun _ _ j _ => 8 - (intOf j).toNat)
  case atStart => exact ⟨0, by omega, rfl, Lib.hid hB, Kept.refl _ _ _, s3⟩
  case round =>
    obtain ⟨q, hq, rfl, hW, k9, hs9⟩ := hrel
    by_cases hlt : q < 8
    · have hix : (wcells S).toArray[q]? = some (.int .u32 ((S.getD q 0).toNat : Int)) := by
        rw [List.getElem?_toArray]
        exact wcells_at S q (by omega)
      have hrun := run_index_arr wr 53 50 8 (wcells S).toArray .i64 q _ (by kernel_rfl) (Try.sizeOf50 wr) (Try.isAgg50 wr) hlt hix
      have hmore := wbytes_more S q (by omega)
      have hlen := wbytes_length S q (by omega)
      rw [bytes4_eq] at hmore
      generalize S.getD q 0 = X at hrun hmore
      have Hrun := Lib.hid hrun
      have Hmore := Lib.hid hmore
      clear hrun hmore hix
      obtain ⟨R, hR⟩ : ∃ R, R = wbytes S q := ⟨_, rfl⟩
      rw [← hR] at hW hlen
      have hbl := brow_length R (by omega)
      have c0 : wr.cell? ⟨wb, 4 * q, none⟩ = some ((brow R)[4 * q]'(by omega)) := cells_at hW.out (4 * q) (by omega)
      have c1 : wr.cell? ⟨wb, 4 * q + 1, none⟩ = some ((brow R)[4 * q + 1]'(by omega)) := cells_at hW.out (4 * q + 1) (by omega)
      have c2 : wr.cell? ⟨wb, 4 * q + 2, none⟩ = some ((brow R)[4 * q + 2]'(by omega)) := cells_at hW.out (4 * q + 2) (by omega)
      have c3 : wr.cell? ⟨wb, 4 * q + 3, none⟩ = some ((brow R)[4 * q + 3]'(by omega)) := cells_at hW.out (4 * q + 3) (by omega)
      have f0 := cells_free hW.out (4 * q)
      have f1 := cells_free hW.out (4 * q + 1)
      have f2 := cells_free hW.out (4 * q + 2)
      have f3 := cells_free hW.out (4 * q + 3)
      generalize (brow R)[4 * q]'(by omega) = y0 at c0
      generalize (brow R)[4 * q + 1]'(by omega) = y1 at c1
      generalize (brow R)[4 * q + 2]'(by omega) = y2 at c2
      generalize (brow R)[4 * q + 3]'(by omega) = y3 at c3
      have HR := Lib.hid hR
      clear hR
      go_wp2_with fail
      rw [Hrun.out]
      go_wp2_with fail
      have v0 : (X.toNat : Int) / 16777216 % 256 = (((UInt8.ofNat (X.toNat / 16777216)).toNat : Nat) : Int) := by rw [← ofNat_byte]; rfl
      have v1 : (X.toNat : Int) / 65536 % 256 = (((UInt8.ofNat (X.toNat / 65536)).toNat : Nat) : Int) := by rw [← ofNat_byte]; rfl
      have v2 : (X.toNat : Int) / 256 % 256 = (((UInt8.ofNat (X.toNat / 256)).toNat : Nat) : Int) := by rw [← ofNat_byte]; rfl
      have v3 : (X.toNat : Int) % 256 = (((UInt8.ofNat X.toNat).toNat : Nat) : Int) := ofNat_byte _
      rw [v0, v1, v2, v3]
      have hw4 := cells_set (cells_set (cells_set (cells_set hW.out (4 * q) (.int .u8 ((UInt8.ofNat (X.toNat / 16777216)).toNat : Int))) (4 * q + 1) (.int .u8 ((UInt8.ofNat (X.toNat / 65536)).toNat : Int))) (4 * q + 2) (.int .u8 ((UInt8.ofNat (X.toNat / 256)).toNat : Int))) (4 * q + 3) (.int .u8 ((UInt8.ofNat X.toNat).toNat : Int))
      rw [brow_set4 R q _ _ _ _ hlen hlt, HR.out, ← Hmore.out] at hw4
      have k4 := (((k9.set (b' := wb) (.inl rfl) (4 * q) (.int .u8 ((UInt8.ofNat (X.toNat / 16777216)).toNat : Int))).set (b' := wb) (.inl rfl) (4 * q + 1) (.int .u8 ((UInt8.ofNat (X.toNat / 65536)).toNat : Int))).set (b' := wb) (.inl rfl) (4 * q + 2) (.int .u8 ((UInt8.ofNat (X.toNat / 256)).toNat : Int))).set (b' := wb) (.inl rfl) (4 * q + 3) (.int .u8 ((UInt8.ofNat X.toNat).toNat : Int))
      exact ⟨⟨q + 1, by omega, by rw [Int.natCast_add]; rfl, Lib.hid hw4, k4, by simpa [World.setCell] using hs9⟩, by simp only [intOf]; omega⟩
    · obtain rfl : q = 8 := by omega
      have hwl := wbytes_length S 8 (by omega)
      have hall8 : wbytes S 8 = v.list.flatMap Sm.bytes4 := by rw [wbytes, List.take_of_length_le (by omega), HS.out]
      have hW8 := hW.out
      rw [brow_all _ hwl, hall8] at hW8
      rw [hall8] at hwl
      have hA5 := (k9.block wa (by omega) (by omega)).trans hA
      have hK5 := HK.out.trans (k9.mono (base' := wa) (b' := wa) (by omega) (fun k hk _ => by omega))
      have hsz : (bcells (v.list.flatMap Sm.bytes4)).toArray.size = 32 := by rw [List.size_toArray, bcells_length, hwl]
      have hall := bcells_all (v.list.flatMap Sm.bytes4)
      have hz32 := zeros32_size
      generalize hcs : (bcells (v.list.flatMap Sm.bytes4)).toArray = cs at hW8 hsz hall
      have Hcs := Lib.hid hcs.symm
      clear hcs
      generalize zeros32 = z at hA5 hz32
      clear hW hA hall8 hwl
      go_wp2_with (first | (with_reducible refine wpList_load_row rfl 25 _ rfl wb rfl 25 cs (0, 0) _ hW8 Try.underlying25 rfl (by rw [shaInfo30, hsz]) ?_) | (with_reducible refine wpList_store_row rfl 25 _ _ rfl wa cs rfl rfl 25 _ hA5 (by rw [shaInfo30, hsz]) (by rw [hz32, hsz]) hall ?_))
      obtain ⟨t1, t2⟩ : Kept wa wa w (wr.setRow wa cs) ∧ (wr.setRow wa cs).heap[wa]? = some (.cells cs 25 (0, 0)) :=
        ⟨hK5.trans ⟨rfl, rfl, rfl, by simp [World.setRow], fun k hk _ => setRow_other wr wa k cs (by omega)⟩, setRow_heap wr wa z cs _ _ hA5⟩
      refine bodyPost_ret (results_cell_row rfl _ _ wa 25 cs (0, 0) _ rfl t2 Try.underlying25 rfl (by rw [shaInfo30, hsz])) rfl ?_
      refine ⟨?_, ?_⟩
      · rw [Hcs.out]
      · rw [← HWA.out]
        exact t1

end Go.Proofs.Ytdhebdahfnilkaa
