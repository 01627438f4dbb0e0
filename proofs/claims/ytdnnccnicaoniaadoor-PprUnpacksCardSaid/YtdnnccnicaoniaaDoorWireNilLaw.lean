/-
  The walk of the statement WireNil: a nil writer and a nil reader refuse; it answers true and leaves all that was there as it was.
-/
import Derived.Test.YtdnnccnicaoniaaDoorWireFew
import Derived.Test.YtdnnccnicaoniaaDoorGA
import Derived.Stop.BytesEq

namespace Go.Proofs.YtdnnccnicaoniaaDoor
open Go.RowKit

theorem wireGuard30 : Tryd.prog.eqGuardType Tryd.prog.depth 23 = false := by kernel_rfl
theorem wireSizeOf5 (w : World) : (sizeOf 5).run Tryd.prog w = .ok 1 w := by kernel_rfl
theorem zeros32_same (w : World) : (Op.equalIn 10000 23 (.agg zeros32) (.agg zeros32)).run Tryd.prog w = .ok true w := by
  have := hash_equalIn w (List.replicate 32 0) (List.replicate 32 0) rfl rfl
  rwa [beq_self_eq_true] at this

theorem zeros32_lit (w : World) : (Op.equalIn 10000 23 (.agg zeros32) (.agg #[Value.int IntKind.u8 0, Value.int IntKind.u8 0, Value.int IntKind.u8 0, Value.int IntKind.u8 0, Value.int IntKind.u8 0, Value.int IntKind.u8 0, Value.int IntKind.u8 0, Value.int IntKind.u8 0, Value.int IntKind.u8 0, Value.int IntKind.u8 0, Value.int IntKind.u8 0, Value.int IntKind.u8 0, Value.int IntKind.u8 0, Value.int IntKind.u8 0, Value.int IntKind.u8 0, Value.int IntKind.u8 0, Value.int IntKind.u8 0, Value.int IntKind.u8 0, Value.int IntKind.u8 0, Value.int IntKind.u8 0, Value.int IntKind.u8 0, Value.int IntKind.u8 0, Value.int IntKind.u8 0, Value.int IntKind.u8 0, Value.int IntKind.u8 0, Value.int IntKind.u8 0, Value.int IntKind.u8 0, Value.int IntKind.u8 0, Value.int IntKind.u8 0, Value.int IntKind.u8 0, Value.int IntKind.u8 0, Value.int IntKind.u8 0])).run Tryd.prog w = .ok true w := zeros32_same w

theorem nil_failed (w : World) : Failed w (.pointer none) 1 := ⟨by decide, .inl ⟨rfl, rfl⟩⟩

end Go.Proofs.YtdnnccnicaoniaaDoor
