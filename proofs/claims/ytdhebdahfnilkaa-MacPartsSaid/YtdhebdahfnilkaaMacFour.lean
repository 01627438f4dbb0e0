/-
  A number in four bytes: the landed one and the document's; bytes of a block as a string.
-/
import Derived.Test.YtdhebdahfnilkaaMacMath
import Derived.Laws.IdiomStrings
namespace Go.Proofs.Ytdhebdahfnilkaa
open Go.RowKit

/-- The string of the bytes that lie in a block. -/
theorem conv_at (w : World) (b o cap : Nat) (l : List UInt8) (h : ∀ j (hj : j < l.length), w.cell? ⟨b, o + j, none⟩ = some (.int .u8 ((l[j]).toNat : Int))) :
    (convert 38 9 (.slice (some ⟨b, o, none⟩) l.length cap)).run Try.prog w = .ok (.string (str l)) w :=
  run_convert_bytes_back (P := Try.prog) w 38 9 5 ⟨b, o, none⟩ cap l Try.underlying38 Try.underlying5 Try.underlying9 (fun j hj => by rw [Addr.add_lit]; exact h j hj)
/-- .. of a part of a row of bytes. -/
theorem conv_row (w : World) (b : Nat) (m : List UInt8) (t : TypeId) (fr : Nat × Nat) (hb : w.heap[b]? = some (.cells (bcells m).toArray t fr)) (o cap : Nat) (l : List UInt8) (h : l = (m.drop o).take l.length) :
    (convert 38 9 (.slice (some ⟨b, o, none⟩) l.length cap)).run Try.prog w = .ok (.string (str l)) w := by
  refine conv_at w b o cap l fun j hj => ?_
  have hm : m[o + j]? = some l[j] := by
    have h1 : l[j]? = some l[j] := List.getElem?_eq_getElem hj
    have h2 : l[j]? = ((m.drop o).take l.length)[j]? := congrArg (fun x : List UInt8 => x[j]?) h
    rw [List.getElem?_take, if_pos hj, List.getElem?_drop] at h2
    rw [← h2, h1]
  have hlt : o + j < m.length := by
    rcases Nat.lt_or_ge (o + j) m.length with h1 | h1
    · exact h1
    · rw [List.getElem?_eq_none h1] at hm; cases hm
  have hv : m[o + j] = l[j] := by
    rw [List.getElem?_eq_getElem hlt] at hm
    exact Option.some.inj hm
  simp [World.cell?, hb, bcells, hlt, hv]
theorem conv_four (w : World) (a b c d : UInt8) : (convert 38 9 (.slice (some ⟨w.heap.size, 0, none⟩) 4 4)).run Try.prog (w.alloc (.cells #[.int .u8 (a.toNat : Int), .int .u8 (b.toNat : Int), .int .u8 (c.toNat : Int), .int .u8 (d.toNat : Int)] 5)) = .ok (.string (str [a, b, c, d])) (w.alloc (.cells #[.int .u8 (a.toNat : Int), .int .u8 (b.toNat : Int), .int .u8 (c.toNat : Int), .int .u8 (d.toNat : Int)] 5)) :=
  conv_row _ w.heap.size [a, b, c, d] _ (0, 0) (heap_new _ _) 0 4 [a, b, c, d] rfl

theorem byte_of (x : Nat) : ((x : Int) % 256) = (((UInt8.ofNat x).toNat : Nat) : Int) := by rw [UInt8.toNat_ofNat']; rfl

set_option maxRecDepth 100000 in
theorem four_calls (n : Nat) (w : World) : Calls Try.prog 22 #[.int .i64 (n : Int)] w fun e w' => e = .returned (.string (str (Mc.four n))) ∧ Kept w.heap.size w.heap.size w w' := by
  have h := conv_four w (UInt8.ofNat (n / 16777216)) (UInt8.ofNat (n / 65536)) (UInt8.ofNat (n / 256)) (UInt8.ofNat n)
  rw [← byte_of, ← byte_of, ← byte_of, ← byte_of] at h
  have H := Lib.hid h
  clear h
  go_enter Try.func22, Try.ntmps22
  go_wp2_with fail
  rw [show ((n : Int) / 16777216) = ((n / 16777216 : Nat) : Int) from rfl, show ((n : Int) / 65536) = ((n / 65536 : Nat) : Int) from rfl, show ((n : Int) / 256) = ((n / 256 : Nat) : Int) from rfl, H.out]
  go_wp2
  go_ret
  exact ⟨rfl, (Kept.refl _ _ _).alloc (Nat.le_refl _) _⟩
set_option maxRecDepth 100000 in
theorem reffour_calls (n : Nat) (hn : Hid (n < 4294967296)) (w : World) : Calls Try.prog 23 #[.int .i64 (n : Int)] w fun e w' => e = .returned (.string (str (Mc.four n))) ∧ Kept w.heap.size w.heap.size w w' := by
  have h := conv_four w (UInt8.ofNat (n / 16777216)) (UInt8.ofNat (n / 65536)) (UInt8.ofNat (n / 256)) (UInt8.ofNat n)
  have e1 : wrap64 ((n : Int) / 16777216) % 256 = (((UInt8.ofNat (n / 16777216)).toNat : Nat) : Int) := by
    rw [← byte_of, show wrap64 ((n : Int) / 16777216) = ((n / 16777216 : Nat) : Int) by have := hn.out; unfold wrap64; omega]
  have e2 : (wrap64 ((n : Int) / 65536)).tmod 256 % 256 = (((UInt8.ofNat (n / 65536)).toNat : Nat) : Int) := by
    rw [← byte_of, show wrap64 ((n : Int) / 65536) = ((n / 65536 : Nat) : Int) by have := hn.out; unfold wrap64; omega, Int.tmod_eq_emod_of_nonneg (by omega)]
    omega
  have e3 : (wrap64 ((n : Int) / 256)).tmod 256 % 256 = (((UInt8.ofNat (n / 256)).toNat : Nat) : Int) := by
    rw [← byte_of, show wrap64 ((n : Int) / 256) = ((n / 256 : Nat) : Int) by have := hn.out; unfold wrap64; omega, Int.tmod_eq_emod_of_nonneg (by omega)]
    omega
  have e4 : (n : Int) % 256 = (((UInt8.ofNat n).toNat : Nat) : Int) := byte_of n
  have H := Lib.hid h
  have E1 := Lib.hid e1
  have E2 := Lib.hid e2
  have E3 := Lib.hid e3
  have E4 := Lib.hid e4
  clear h e1 e2 e3 e4
  go_enter Try.func23, Try.ntmps23
  go_wp2_with fail
  rw [E1.out, E2.out, E3.out, E4.out, H.out]
  go_wp2
  go_ret
  exact ⟨rfl, (Kept.refl _ _ _).alloc (Nat.le_refl _) _⟩

end Go.Proofs.Ytdhebdahfnilkaa
