/-
  The document's own answers: a number, a text, a digest, a flag as bytes.
-/
import Derived.Test.YtbpcmfnfjbnloaaDoorWireRHash
namespace Go.Proofs.YtbpcmfnfjbnloaaDoor
open Go.RowKit

theorem lit_string (w : World) (cells : Array Value) (t : TypeId) (l : List UInt8) (n : Nat) (hn : l.length = n) (hc : cells = (bcells l).toArray) :
    (convert 56 9 (.slice (some ⟨w.heap.size, 0, none⟩) n n)).run Tryd.prog (w.alloc (.cells cells t)) = .ok (.string (str l)) (w.alloc (.cells cells t)) := by
  subst hn
  subst hc
  exact run_convert_bytes_back (w.alloc (.cells (bcells l).toArray t)) _ _ _ ⟨w.heap.size, 0, none⟩ _ l Tryd.underlying56 Tryd.underlying5 Tryd.underlying9 (cells_new w l t)

theorem byte_eq (x : Int) (m : Nat) (h : x = ((m % 256 : Nat) : Int)) : Value.int .u8 x = Value.int .u8 ((UInt8.ofNat m).toNat : Int) := by
  rw [h, UInt8.toNat_ofNat']
theorem lit1 (x0 : Int) (m : Nat) (h0 : x0 = ((m % 256 : Nat) : Int)) : #[Value.int .u8 x0] = (bcells (Wm.be m 1)).toArray := by
  rw [byte_eq x0 _ h0]
  simp [bcells, Wm.be]
theorem lit2 (x0 x1 : Int) (m : Nat) (h0 : x0 = ((m / 256 % 256 : Nat) : Int)) (h1 : x1 = ((m % 256 : Nat) : Int)) : #[Value.int .u8 x0, Value.int .u8 x1] = (bcells (Wm.be m 2)).toArray := by
  rw [byte_eq x0 _ h0, byte_eq x1 _ h1]
  simp [bcells, Wm.be]
theorem lit4 (x0 x1 x2 x3 : Int) (m : Nat) (h0 : x0 = ((m / 16777216 % 256 : Nat) : Int)) (h1 : x1 = ((m / 65536 % 256 : Nat) : Int)) (h2 : x2 = ((m / 256 % 256 : Nat) : Int)) (h3 : x3 = ((m % 256 : Nat) : Int)) :
    #[Value.int .u8 x0, Value.int .u8 x1, Value.int .u8 x2, Value.int .u8 x3] = (bcells (Wm.be m 4)).toArray := by
  rw [byte_eq x0 _ h0, byte_eq x1 _ h1, byte_eq x2 _ h2, byte_eq x3 _ h3]
  simp [bcells, Wm.be]
theorem lit8 (x0 x1 x2 x3 x4 x5 x6 x7 : Int) (m : Nat) (h0 : x0 = ((m / 72057594037927936 % 256 : Nat) : Int)) (h1 : x1 = ((m / 281474976710656 % 256 : Nat) : Int)) (h2 : x2 = ((m / 1099511627776 % 256 : Nat) : Int)) (h3 : x3 = ((m / 4294967296 % 256 : Nat) : Int))
    (h4 : x4 = ((m / 16777216 % 256 : Nat) : Int)) (h5 : x5 = ((m / 65536 % 256 : Nat) : Int)) (h6 : x6 = ((m / 256 % 256 : Nat) : Int)) (h7 : x7 = ((m % 256 : Nat) : Int)) :
    #[Value.int .u8 x0, Value.int .u8 x1, Value.int .u8 x2, Value.int .u8 x3, Value.int .u8 x4, Value.int .u8 x5, Value.int .u8 x6, Value.int .u8 x7] = (bcells (Wm.be m 8)).toArray := by
  rw [byte_eq x0 _ h0, byte_eq x1 _ h1, byte_eq x2 _ h2, byte_eq x3 _ h3, byte_eq x4 _ h4, byte_eq x5 _ h5, byte_eq x6 _ h6, byte_eq x7 _ h7]
  simp [bcells, Wm.be]

theorem refnum_0 (n : Nat) (w : World) (h : n < 64) : Calls Tryd.prog 34 #[.int .i64 n] w fun e w' => e = .returned (.string (str (Wm.be n 1))) ∧ Kept w.heap.size w.heap.size w w' := by
  have L := Lib.hid (lit1 n n (by omega))
  go_enter Tryd.func34, Tryd.ntmps34
  go_wp2_with fail
  rw [lit_string w _ _ (Wm.be n 1) 1 (Wm.be_length _ _) L.out]
  clear L
  go_wp2
  go_ret
  exact ⟨rfl, (Kept.refl _ _ _).alloc (Nat.le_refl _) _⟩
theorem refnum_1 (n : Nat) (w : World) (hm : n ≤ 16383) (hb0 : decide ((n : Int) < 64) = false) (hb1 : decide ((n : Int) < 16384) = true) : Calls Tryd.prog 34 #[.int .i64 n] w fun e w' => e = .returned (.string (str (Wm.be (16384 + n) 2))) ∧ Kept w.heap.size w.heap.size w w' := by
  have L := Lib.hid (lit2 (64 + (n : Int) / 256) ((n : Int) % 256) (16384 + n) (by omega) (by omega))
  go_enter Tryd.func34, Tryd.ntmps34
  go_wp2_with fail
  rw [lit_string w _ _ (Wm.be (16384 + n) 2) 2 (Wm.be_length _ _) L.out]
  clear L
  go_wp2
  go_ret
  exact ⟨rfl, (Kept.refl _ _ _).alloc (Nat.le_refl _) _⟩
theorem refnum_2 (n : Nat) (w : World) (hm : n ≤ 4611686018427387903) (hb0 : decide ((n : Int) < 64) = false) (hb1 : decide ((n : Int) < 16384) = false) (hb2 : decide ((n : Int) < 1073741824) = true) : Calls Tryd.prog 34 #[.int .i64 n] w fun e w' => e = .returned (.string (str (Wm.be (2147483648 + n) 4))) ∧ Kept w.heap.size w.heap.size w w' := by
  have L := Lib.hid (lit4 ((128 + (n : Int) / 16777216) % 256) ((n : Int) / 65536 % 256) ((n : Int) / 256 % 256) ((n : Int) % 256) (2147483648 + n) (by omega) (by omega) (by omega) (by omega))
  go_enter Tryd.func34, Tryd.ntmps34
  go_wp2_with fail
  rw [lit_string w _ _ (Wm.be (2147483648 + n) 4) 4 (Wm.be_length _ _) L.out]
  clear L
  go_wp2
  go_ret
  exact ⟨rfl, (Kept.refl _ _ _).alloc (Nat.le_refl _) _⟩
theorem refnum_3 (n : Nat) (w : World) (hm : n ≤ 4611686018427387903) (hb0 : decide ((n : Int) < 64) = false) (hb1 : decide ((n : Int) < 16384) = false) (hb2 : decide ((n : Int) < 1073741824) = false) : Calls Tryd.prog 34 #[.int .i64 n] w fun e w' => e = .returned (.string (str (Wm.be (13835058055282163712 + n) 8))) ∧ Kept w.heap.size w.heap.size w w' := by
  have L := Lib.hid (lit8 ((n : Int) / 256 / 256 / 256 / 256 / 256 / 256 / 256 % 256 + 192) ((n : Int) / 256 / 256 / 256 / 256 / 256 / 256 % 256) ((n : Int) / 256 / 256 / 256 / 256 / 256 % 256) ((n : Int) / 256 / 256 / 256 / 256 % 256) ((n : Int) / 256 / 256 / 256 % 256) ((n : Int) / 256 / 256 % 256) ((n : Int) / 256 % 256) ((n : Int) % 256)
    (13835058055282163712 + n) (by omega) (by omega) (by omega) (by omega) (by omega) (by omega) (by omega) (by omega))
  go_enter Tryd.func34, Tryd.ntmps34
  go_wp2
  refine wp_loop_rounds 9 ?_; rw [rounds_succ]
  go_wp2
  iterate 8 (rw [rounds_succ]; go_wp2)
  rw [lit_string w _ _ (Wm.be (13835058055282163712 + n) 8) 8 (Wm.be_length _ _) L.out]
  clear L
  go_wp2
  go_ret
  exact ⟨rfl, (Kept.refl _ _ _).alloc (Nat.le_refl _) _⟩

theorem refnum (n : Nat) (w : World) (hm : n ≤ 4611686018427387903) : Calls Tryd.prog 34 #[.int .i64 n] w fun e w' => e = .returned (.string (str (Wm.enc n))) ∧ Kept w.heap.size w.heap.size w w' := by
  unfold Wm.enc
  by_cases h1 : n < 64
  · rw [if_pos h1]; exact refnum_0 n w h1
  · rw [if_neg h1]
    have b0 : decide ((n : Int) < 64) = false := by rw [decide_eq_false_iff_not]; omega
    by_cases h2 : n < 16384
    · rw [if_pos h2]; exact refnum_1 n w (by omega) b0 (by rw [decide_eq_true_iff]; omega)
    · rw [if_neg h2]
      have b1 : decide ((n : Int) < 16384) = false := by rw [decide_eq_false_iff_not]; omega
      by_cases h3 : n < 1073741824
      · rw [if_pos h3]; exact refnum_2 n w hm b0 b1 (by rw [decide_eq_true_iff]; omega)
      · rw [if_neg h3]; exact refnum_3 n w hm b0 b1 (by rw [decide_eq_false_iff_not]; omega)

theorem str_append (a b : List UInt8) : str a ++ str b = str (a ++ b) := by
  apply ByteArray.ext
  simp [ByteArray.data_append]
theorem str_of (s : ByteArray) : str s.data.toList = s := by
  apply ByteArray.ext
  simp
theorem str_size (l : List UInt8) : (str l).size = l.length := by simp [ByteArray.size]

theorem reftext (s : ByteArray) (w : World) (hs : s.size ≤ 65536) : Calls Tryd.prog 35 #[.string s] w fun e w' => e = .returned (.string (str (Wm.enc s.size ++ s.data.toList))) ∧ Kept w.heap.size w.heap.size w w' := by
  have hle := Wm.enc_length_le s.size
  go_enter Tryd.func35, Tryd.ntmps35
  go_wp2_with fail
  refine (refnum s.size _ (by omega)).mono ?_
  rintro e w1 ⟨rfl, k1⟩
  go_wp2
  go_ret
  refine ⟨?_, k1⟩
  rw [← str_append, str_of]
  rfl

theorem refhash (x : List UInt8) (hx : x.length = 32) (w : World) : Calls Tryd.prog 36 #[.agg (bcells x).toArray] w fun e w' => e = .returned (.string (str x)) ∧ Kept w.heap.size w.heap.size w w' := by
  go_enter Tryd.func36, Tryd.ntmps36
  go_wp2
  rw [lit_string w _ _ x 32 hx rfl]
  go_wp2
  go_ret
  exact ⟨rfl, (Kept.refl _ _ _).alloc (Nat.le_refl _) _⟩

theorem refflag (x : Bool) (w : World) : Calls Tryd.prog 37 #[.bool x] w fun e w' => e = .returned (.string (str [if x then 1 else 0])) ∧ w = w' := by
  cases x
  all_goals
    go_enter Tryd.func37, Tryd.ntmps37
    go_wp2
    go_ret
    exact ⟨rfl, rfl⟩

end Go.Proofs.YtbpcmfnfjbnloaaDoor
