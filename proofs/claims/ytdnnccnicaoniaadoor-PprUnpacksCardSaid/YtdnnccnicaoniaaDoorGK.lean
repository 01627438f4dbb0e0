/-
  MacRefCode; MacRefDerive: several texts in one.
-/
import Derived.Test.YtdnnccnicaoniaaDoorGI
import Derived.Test.YtdnnccnicaoniaaDoorGJ

namespace Go.Proofs.YtdnnccnicaoniaaDoor
open Go.RowKit

theorem macInfo24 : (Tryd.prog.info? 22).map (·.size) = some 32 := by kernel_rfl
theorem conv_byte (w : World) (c : UInt8) : (convert 61 9 (.slice (some ⟨w.heap.size, 0, none⟩) 1 1)).run Tryd.prog (w.alloc (.cells #[.int .u8 (c.toNat : Int)] 5)) = .ok (.string (str [c])) (w.alloc (.cells #[.int .u8 (c.toNat : Int)] 5)) :=
  conv_row _ w.heap.size [c] _ (0, 0) (heap_new _ _) 0 1 [c] rfl
theorem conv_byte2 (w : World) (o : Obj) (c : UInt8) : (convert 61 9 (.slice (some ⟨w.heap.size + 1, 0, none⟩) 1 1)).run Tryd.prog ((w.alloc o).alloc (.cells #[.int .u8 (c.toNat : Int)] 5)) = .ok (.string (str [c])) ((w.alloc o).alloc (.cells #[.int .u8 (c.toNat : Int)] 5)) := by
  have := conv_byte (w.alloc o) c
  rwa [show (w.alloc o).heap.size = w.heap.size + 1 by simp] at this
theorem put_more (x : UInt8) (f : List UInt8) (i : Nat) (h : i < f.length) : Mc.put x (f.take (i + 1)) = Mc.put x (f.take i) ++ [f[i] ^^^ x] := by
  rw [List.take_succ_eq_append_getElem h, Mc.put, Mc.put, List.map_append]
  rfl

end Go.Proofs.YtdnnccnicaoniaaDoor

namespace Go.Proofs.YtdnnccnicaoniaaDoor
open Go.RowKit

end Go.Proofs.YtdnnccnicaoniaaDoor
